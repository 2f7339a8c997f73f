/- MonitorLate's walk. -/
import Derived.Test.YthippdgmbfaijaaMon10
namespace Go.Proofs.Ythippdgmbfaijaa
open Go Go.RowKit

theorem lateU_pre (ts : List TaskV) (now : Int) (l : List RepV) {k n : Nat} (h : k ≤ n) : lateU ts now l k <+: lateU ts now l n := by
  unfold lateU
  obtain ⟨d, rfl⟩ : ∃ d, n = k + d := ⟨n - k, by omega⟩
  rw [List.range_add, List.filter_append, List.map_append]
  exact List.prefix_append _ _

set_option maxRecDepth 100000 in
set_option maxHeartbeats 2000000 in
theorem late19_any {w : World} {c : ConfV} {ts : List TaskV} {A : Option Addr} {n cap : Nat} {l : List RepV} (now : Int) (hT : TasksAt w c.ta ts) (hT9 : c.ta.n ≤ 9223372036854775807) (hl : RepRow w A l) (hn : l.length = n) :
    Calls Try.prog 4 #[c.val, .slice A n cap, .int .i64 now] w (GrowB true w) := by
  obtain ⟨W1, hW1⟩ : ∃ W1, W1 = w.alloc (.cells c.cells.toArray 27) := ⟨_, rfl⟩
  have hO : Only (fun _ => False) w W1 := by rw [hW1]; exact (Only.refl (fun _ => False) w).alloc (.cells c.cells.toArray 27)
  have hB : W1.heap[w.heap.size]? = some (.cells c.cells.toArray 27 (0, 0)) := by rw [hW1]; exact heap_new_at _ _ rfl
  have hB' := Lib.hid hB
  have hO' := Lib.hid hO
  have hT' := Lib.hid (hT.new hO)
  have hl' := Lib.hid (hl.new hO)
  have hn' := Lib.hid hn
  have hlen := Lib.hid hT.len
  have ql := Lib.hid (fun (W : World) (hW : Only (fun _ => False) W1 W) (h : n ≤ 1000000) => late_any (cap := cap) now (hT'.out.new hW) hT9 (hl'.out.new hW) hn h)
  unfold ConfV.val at ql ⊢
  unfold ConfV.cells at hW1 hB'
  obtain ⟨s, wy, h, mi, ⟨mA, mn, mc⟩, g, ⟨cA, cn, cc⟩, ⟨eA, en, ec⟩, ⟨tA, tn, tc⟩, ⟨lA, ln, lc⟩⟩ := c
  dsimp only at *
  have hW1' := Lib.hid hW1
  clear hT hl hn hW1 hB hO
  go_enter Try.func4, Try.ntmps4
  go_wp2_with fail
  rw [← hW1'.out]
  refine (fixed19_any _).mono ?_
  rintro e w2 ⟨rfl, hO2⟩
  have hO2' := Lib.hid hO2
  have hbox := Lib.hid (hO2.heap hB'.out (fun h => h))
  have d0 := row_cell hbox.out (i := 0) rfl
  have d1 := row_cell hbox.out (i := 1) rfl
  have d2 := row_cell hbox.out (i := 2) rfl
  have d3 := row_cell hbox.out (i := 3) rfl
  have d4 := row_cell hbox.out (i := 4) rfl
  have d5 := row_cell hbox.out (i := 5) rfl
  have d6 := row_cell hbox.out (i := 6) rfl
  have d7 := row_cell hbox.out (i := 7) rfl
  have d8 := row_cell hbox.out (i := 8) rfl
  have d9 := row_cell hbox.out (i := 9) rfl
  have hlb := row_lt hbox.out
  clear hO2
  by_cases h20 : 20 < tn
  · have h20' : (20 : Int) < (tn : Int) := by omega
    go_wp2
    go_ret
    exact ⟨rfl, hO'.out.trans' hO2'.out⟩
  by_cases h150 : 150 < n
  · have h20' : ¬ (20 : Int) < (tn : Int) := by omega
    have h150' : (150 : Int) < (n : Int) := by omega
    go_wp2
    go_ret
    exact ⟨rfl, hO'.out.trans' hO2'.out⟩
  have h20' : ¬ (20 : Int) < (tn : Int) := by omega
  have h150' : ¬ (150 : Int) < (n : Int) := by omega
  go_wp2_with fail
  refine (ql.out _ hO2'.out (by omega)).mono ?_
  rintro e w3 ⟨p, cp, hh, rfl, hW3, hn3, hO3⟩
  have hO3' := Lib.hid (hO2'.out.trans' hO3)
  have hWin := Lib.hid hW3
  clear d0 d1 d2 d3 d4 d5 d6 d7 d8 d9 hlb hbox hW3 hn3 hO3
  obtain ⟨L, hL⟩ : ∃ L, L = lateL ts now l := ⟨_, rfl⟩
  rw [← hL] at hWin ⊢
  have hL' := Lib.hid hL
  obtain ⟨m, hm⟩ : ∃ m, m = L.length := ⟨_, rfl⟩
  rw [← hm] at hWin ⊢
  have hm' := Lib.hid hm
  have hm150 : m ≤ 150 := by
    have := lateU_len ts now l l.length
    rw [hm, hL, lateL]
    have := hn'.out
    omega
  clear hL hm
  go_wp2
  go_loopw [8, 30] (fun a i wr => ∃ k : Nat, k ≤ n ∧ i = .int .i64 k ∧ a = .int .i64 ((lateU ts now l k).length : Int) ∧ Only (fun _ => False) w3 wr) (fun _ i _ => n - (intOf i).toNat)
  case atStart => exact ⟨0, Nat.zero_le _, rfl, rfl, Only.refl _ _⟩
  case round =>
    obtain ⟨k, hk, rfl, rfl, hOk⟩ := hrel
    obtain ⟨ws, hws⟩ : ∃ ws : World, ws = wr := ⟨_, rfl⟩
    subst hws
    have hOs := Lib.hid (hO3'.out.trans' hOk)
    have hbox := Lib.hid (hOs.out.heap hB'.out (fun h => h))
    have hrow := Lib.hid (hT'.out.new hOs.out)
    have hrep := Lib.hid (hl'.out.new hOs.out)
    have hwin := Lib.hid (hWin.out.kept hOk (fun _ _ h => h))
    have hOk' := Lib.hid hOk
    clear hOk
    obtain ⟨a, ha⟩ : ∃ a, a = (lateU ts now l k).length := ⟨_, rfl⟩
    have ha' := Lib.hid ha
    rw [← ha]
    have ham : a ≤ m := by
      rw [ha, hm'.out, hL'.out, lateL, hn'.out]
      exact (lateU_pre ts now l hk).length_le
    clear ha
    by_cases hkn : k < n
    · have hkn' : (k : Int) < (n : Int) := by omega
      obtain ⟨r, hr⟩ : ∃ r, l[k]? = some r := ⟨_, List.getElem?_eq_getElem (by have := hn'.out; omega)⟩
      obtain ⟨b, off, hA, hb, hc⟩ := hrep.out k r hr
      have hr' := Lib.hid hr
      subst hA
      clear hr
      obtain ⟨t, j, re, st, en', fa, di, hi, mi', wi, ba⟩ := r
      have k0 := hc 0 _ rfl
      rw [Nat.add_zero] at k0
      have k1 := hc 1 _ rfl
      have k2 := hc 2 _ rfl
      have k3 := hc 3 _ rfl
      have k4 := hc 4 _ rfl
      have k5 := hc 5 _ rfl
      have k6 := hc 6 _ rfl
      have k7 := hc 7 _ rfl
      have k8 := hc 8 _ rfl
      have k9 := hc 9 _ rfl
      have k10 := hc 10 _ rfl
      clear hc
      go_upto_region 10 with fail
      obtain ⟨W2, hW2⟩ : ∃ W2, W2 = ws.alloc (.cells #[.int .i64 t, .int .i64 j, .int .i64 re, .int .i64 st, .int .i64 en', .bool fa, .int .i64 di, .int .i64 hi, .int .i64 mi', .int .i64 wi, .int .i64 ba] 48) := ⟨_, rfl⟩
      have hO2 : Only (fun _ => False) ws W2 := by rw [hW2]; exact (Only.refl _ ws).alloc _
      have hb2 : W2.heap[ws.heap.size]? = some (.cells #[.int .i64 t, .int .i64 j, .int .i64 re, .int .i64 st, .int .i64 en', .bool fa, .int .i64 di, .int .i64 hi, .int .i64 mi', .int .i64 wi, .int .i64 ba] 48 (0, 0)) := by rw [hW2]; exact heap_new_at _ _ rfl
      rw [← hW2]
      clear hW2 k0 k1 k2 k3 k4 k5 k6 k7 k8 k9 k10 hb
      have hbx := hO2.heap hbox.out (fun h => h)
      have hOw := Lib.hid hO2
      have hrow2 := Lib.hid (hrow.out.new hO2)
      have hwin2 := Lib.hid (hwin.out.kept hO2 (fun _ _ h => h))
      have e0 := row_cell hb2 (i := 0) rfl
      have e2 := row_cell hb2 (i := 2) rfl
      have e4 := row_cell hb2 (i := 4) rfl
      have d8 := row_cell hbx (i := 8) rfl
      have hl1 := row_lt hb2
      have hl2 := row_lt hbx
      clear hO2 hb2 hbx
      obtain ⟨V, hV⟩ : ∃ V, V = lateB ts now ⟨t, j, re, st, en', fa, di, hi, mi', wi, ba⟩ := ⟨_, rfl⟩
      have hV' := Lib.hid hV
      unfold lateB at hV
      dsimp only at hV
      rw [hlen.out] at hV
      by_cases hh0 : 0 ≤ t ∧ t < tn
      · have hhas : hasF tn t = true := decide_eq_true hh0
        rw [if_pos hhas] at hV
        obtain ⟨mt, rfl⟩ : ∃ mt : Nat, t = mt := ⟨t.toNat, by omega⟩
        obtain ⟨tk, htk⟩ : ∃ tk, ts[mt]? = some tk := ⟨_, List.getElem?_eq_getElem (by have := hlen.out; omega)⟩
        rw [Int.toNat_natCast, htk] at hV
        dsimp only at hV
        obtain ⟨bt, ot, hA, hbl, hcl⟩ := hrow2.out.at_ mt tk htk
        simp only at hA
        subst hA
        have t3 := hcl.c3
        clear hcl htk
        obtain ⟨P, th, pe, de, fr, fl, o⟩ := tk
        dsimp only at t3 hV
        have g1 : ¬ (mt : Int) < 0 := by omega
        have g2 : ¬ (tn : Int) ≤ (mt : Int) := by omega
        have hV2 := Lib.hid hV
        clear hV hhas hh0
        have q := Lib.hid (fun n W => clamp_any n W)
        obtain ⟨cr, hcr⟩ : ∃ cr, cr = cl re := ⟨_, rfl⟩
        obtain ⟨cd, hcd⟩ : ∃ cd, cd = cl de := ⟨_, rfl⟩
        have hb1 := cl_bd re
        have hb2 := cl_bd de
        have q1 := Lib.hid (q.out re)
        have q2 := Lib.hid (q.out de)
        rw [← hcr] at hV2 hb1 q1
        rw [← hcd] at hV2 hb2 q2
        have p1 := Lib.hid (fun (x : Wd W2) => Calls.wd_same (x := x) ((q1.out x.W).mono fun _ _ h => ⟨h.1, h.2⟩))
        have p2 := Lib.hid (fun (x : Wd W2) => Calls.wd_same (x := x) ((q2.out x.W).mono fun _ _ h => ⟨h.1, h.2⟩))
        clear hcr hcd
        go_upto_region 11 with fail
        go_cut [11] from 46 to 57 (fun v wc => v = .int .i64 (cr + cd) ∧ Only (fun _ => False) W2 wc)
        case first =>
          have hex := wd_ex W2
          replace e0 := wd_cell e0
          replace e2 := wd_cell e2
          replace d8 := wd_cell d8
          replace t3 := wd_cell t3
          refine wp_region_wd (by kernel_rfl) (by kernel_rfl) ?_
          repeat (go_big_quiet_step (first | (go_at_call 6; first | (with_reducible exact p1.out _) | (with_reducible exact p2.out _))))
          refine wpQuiet_nil ?_
          rintro _ ⟨x, rfl⟩
          have hx := Lib.hid x.ok
          clear hex e0 e2 d8 t3
          go_wp2_with fail
          go_meet
          case rel => exact ⟨rfl, hx.out⟩
        obtain ⟨rfl, hOc⟩ := hcut
        obtain ⟨W3, hW3⟩ : ∃ W3 : World, W3 = wc := ⟨_, rfl⟩
        subst hW3
        have hO3 := Lib.hid (hOw.out.trans' hOc)
        replace e4 := hOc.cell e4 (fun h => h)
        replace hl1 := Nat.lt_of_lt_of_le hl1 hOc.size
        have hwin3 := Lib.hid (hwin2.out.kept hOc (fun _ _ h => h))
        clear e0 e2 d8 t3 p1 p2 q1 q2 hl2 hOc
        have hua : lateU ts now l (k + 1) <+: L := by
          rw [hL'.out, lateL, hn'.out]
          exact lateU_pre ts now l (by omega)
        have hua' := Lib.hid hua
        clear hua
        -- the test's answer, by the report's end
        obtain ⟨U, hU⟩ : ∃ U, U = untilF ⟨(mt : Int), j, re, st, en', fa, di, hi, mi', wi, ba⟩ now := ⟨_, rfl⟩
        rw [← hU] at hV2
        unfold untilF at hU
        dsimp only at hU
        go_upto_region 12 with fail
        go_cut [12] from 58 to 78 (fun v wc => v = .bool V ∧ W3 = wc)
        case first =>
          by_cases hen : en' < 0
          · rw [if_pos hen] at hU
            have hq := Lib.hid (q.out now)
            rw [← hU] at hq
            have hen2 : ¬ (0 : Int) ≤ en' := by omega
            by_cases hlt : cr + cd < U
            · have hv := Lib.hid (show true = V by rw [hV2.out]; exact (decide_eq_true hlt).symm)
              clear hU
              go_wp2_with fail
              refine (hq.out _).mono ?_
              rintro e w' ⟨rfl, rfl⟩
              go_wp2_with fail
              go_meet
              case rel => exact ⟨by first | rw [hv.out] | rw [hV2.out], rfl⟩
            · have hv := Lib.hid (show false = V by rw [hV2.out]; exact (decide_eq_false hlt).symm)
              clear hU
              go_wp2_with fail
              refine (hq.out _).mono ?_
              rintro e w' ⟨rfl, rfl⟩
              go_wp2_with fail
              go_meet
              case rel => exact ⟨by first | rw [hv.out] | rw [hV2.out], rfl⟩
          · rw [if_neg hen] at hU
            have hq := Lib.hid (q.out en')
            rw [← hU] at hq
            have hen2 : (0 : Int) ≤ en' := by omega
            by_cases hlt : cr + cd < U
            · have hv := Lib.hid (show true = V by rw [hV2.out]; exact (decide_eq_true hlt).symm)
              clear hU
              go_wp2_with fail
              refine (hq.out _).mono ?_
              rintro e w' ⟨rfl, rfl⟩
              go_wp2_with fail
              go_meet
              case rel => exact ⟨by first | rw [hv.out] | rw [hV2.out], rfl⟩
            · have hv := Lib.hid (show false = V by rw [hV2.out]; exact (decide_eq_false hlt).symm)
              clear hU
              go_wp2_with fail
              refine (hq.out _).mono ?_
              rintro e w' ⟨rfl, rfl⟩
              go_wp2_with fail
              go_meet
              case rel => exact ⟨by first | rw [hv.out] | rw [hV2.out], rfl⟩
        obtain ⟨rfl, rfl⟩ := hcut
        clear hU
        cases V with
        | false =>
          have hU2 := Lib.hid (lateU_no hr'.out hV'.out.symm)
          go_wp2
          go_roundw
          case rel => exact ⟨k + 1, by omega, by go_num, by rw [hU2.out, ha'.out], hOk'.out.trans' hO3.out⟩
          case measure => simp [intOf]; omega
        | true =>
          have hU2 := Lib.hid (lateU_yes hr'.out hV'.out.symm)
          have hla : (lateU ts now l (k + 1)).length ≤ m := by rw [hm'.out]; exact hua'.out.length_le
          rw [hU2.out, List.length_append, ← ha'.out] at hla
          simp only [List.length_cons, List.length_nil, Nat.zero_add] at hla
          obtain ⟨gg, fo, c2, -, hv2, -, -, hlg, hcg, -⟩ := hwin3.out.at_ (by omega)
          cases hv2
          have x0 : W3.cell? ⟨gg, fo + a, none⟩ = some (.int .i64 k) := hcg a _ (by
            rw [List.getElem?_map]
            obtain ⟨z, hz⟩ := hua'.out
            rw [← hz, hU2.out, List.append_assoc, List.getElem?_append_right (by rw [← ha'.out]; exact Nat.le_refl _), ← ha'.out, Nat.sub_self]
            rfl)
          clear hcg
          go_wp2
          go_roundw
          case rel => exact ⟨k + 1, by omega, by go_num, by rw [hU2.out, List.length_append, ← ha'.out]; rfl, hOk'.out.trans' hO3.out⟩
          case measure => simp [intOf]; omega
      · have hhas : hasF tn t = false := decide_eq_false hh0
        rw [if_neg (by rw [hhas]; simp)] at hV
        have hU2 := Lib.hid (lateU_no hr'.out (hV'.out.symm.trans hV))
        clear hV
        by_cases g1 : t < 0
        · go_wp2
          go_roundw
          case rel => exact ⟨k + 1, by omega, by go_num, by rw [hU2.out, ha'.out], hOk'.out.trans' hOw.out⟩
          case measure => simp [intOf]; omega
        · have g2 : (tn : Int) ≤ t := by omega
          go_wp2
          go_roundw
          case rel => exact ⟨k + 1, by omega, by go_num, by rw [hU2.out, ha'.out], hOk'.out.trans' hOw.out⟩
          case measure => simp [intOf]; omega
    · obtain rfl : k = n := by omega
      have hend : a = m := by rw [ha'.out, hm'.out, hL'.out, lateL, hn'.out]
      subst hend
      go_wp2
      go_ret
      exact ⟨rfl, hO'.out.trans' (hO3'.out.trans' hOk'.out)⟩
end Go.Proofs.Ythippdgmbfaijaa
