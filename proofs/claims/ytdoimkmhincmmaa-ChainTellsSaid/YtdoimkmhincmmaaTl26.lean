/- ChainTells, walked. -/
import Derived.Test.YtdoimkmhincmmaaBcRde
import Derived.Test.YtdoimkmhincmmaaBcOpn26
namespace Go.Proofs.Ytdoimkmhincmmaa
namespace Bch
open Go Go.RowKit Go.Maps Go.Shelf
theorem doneC_all {ts : List TaskV} (hTH : ∀ i, i < ts.length → prio ts i ≤ thr ts i) (hn : ts.length ≤ 9) : doneC ts ts.length = Chn.allC ts.length (prio ts) (thr ts) := by
  unfold doneC Chn.allC
  have key : ∀ (m : List Nat), (∀ i ∈ m, i < ts.length) → m.flatMap (fun i => Chn.chains ts.length (prio ts) (thr ts) 9 i) = m.flatMap (fun i => Chn.chains ts.length (prio ts) (thr ts) ts.length i) := by
    intro m
    induction m with
    | nil => intro _; rfl
    | cons i m ih =>
      intro h
      have hi := h i (by simp)
      have h1 := Chn.rank_le (P := prio ts) hi
      rw [List.flatMap_cons, List.flatMap_cons, ih (fun j hj => h j (by simp [hj])), Chn.chains_fuel hTH 9 ts.length i hi (by omega) (by omega)]
  exact key _ (fun i hi => List.mem_range.1 hi)
theorem deep_same {ts : List TaskV} (hr : rightB ts = true) (hn : ts.length ≤ 9) : (deepL ts = [] ∧ Chn.bestF (prio ts) (frm ts) (doneC ts ts.length) none = none) ∨ Chn.bestF (prio ts) (frm ts) (doneC ts ts.length) none = some (deepL ts) := by
  obtain ⟨_, hTH, hP, hF⟩ := right_facts hr
  obtain ⟨_, _, _, _, _, hd⟩ := deepL_ok ts
  obtain ⟨h0, h1⟩ := hd hr
  by_cases hz : ts.length = 0
  · left
    refine ⟨h0 hz, ?_⟩
    unfold doneC
    rw [hz]
    rfl
  · right
    obtain ⟨c1, c2, c3⟩ := h1 (by omega)
    rw [doneC_all hTH hn]
    have hin := (Chn.all_iff hTH (l := deepL ts)).2 ⟨c2, c1⟩
    obtain ⟨m, m1, m2, m3⟩ := Chn.bestF_none (P := prio ts) (F := frm ts) (r := Chn.allC ts.length (prio ts) (thr ts)) (fun h => by rw [h] at hin; simp at hin)
    obtain ⟨k1, k2⟩ := (Chn.all_iff hTH (l := m)).1 m2
    rw [m1, Chn.better_uniq hP k2.lt c1.lt (c3 m k1 k2) (m3 _ hin)]
theorem best_row {ts : List TaskV} (hr : rightB ts = true) (hn : ts.length ≤ 9) {W : World} {u : Value} (h : BestAt W ts.length u (Chn.bestF (prio ts) (frm ts) (doneC ts ts.length) none)) :
    ∃ A cap h2, u = .slice A (deepL ts).length cap ∧ Win W 3 1 (.slice A (deepL ts).length cap) h2 (deepL ts).length (dat (deepL ts)) := by
  rcases deep_same hr hn with ⟨h1, h2⟩ | h2
  · rw [h2] at h
    rw [h1]
    exact ⟨none, 0, none, h, Win.nil _ _ _⟩
  · rw [h2] at h
    obtain ⟨A, cap, hh, e, hW, -⟩ := h
    exact ⟨_, cap, hh, e, hW⟩
set_option maxRecDepth 100000 in
set_option maxHeartbeats 8000000 in
theorem chainTells_any {w : World} {c : ConfV} {ts : List TaskV} (hT : TasksAt w c.ta ts) (hn : c.ta.n ≤ 9223372036854775807) : Calls Try.prog 5 #[c.val] w (AnsB true w) := by
  obtain ⟨q, hq⟩ : ∃ q, q = w.heap.size := ⟨_, rfl⟩
  obtain ⟨W1, hW1⟩ : ∃ W1, W1 = w.alloc (.cells c.cells.toArray 27) := ⟨_, rfl⟩
  have hO1 : Only (fun _ => False) w W1 := by rw [hW1]; exact (Only.refl _ w).alloc _
  have b0 : W1.heap[q]? = some (.cells c.cells.toArray 27 (0, 0)) := by rw [hW1]; exact heap_new_at _ _ hq.symm
  have hTW := Lib.hid (fun W (ho : Only (fun _ => False) W1 W) => hT.new (hO1.trans' ho))
  have hcy := Lib.hid (fun W (ho : Only (fun _ => False) W1 W) => cy_of (ho.heap b0 (fun h => h)))
  have hlen := Lib.hid hT.len
  obtain ⟨Z, hZ⟩ : ∃ Z, Z = AnsB true w := ⟨_, rfl⟩
  rw [← hZ]
  have hq' := Lib.hid hq
  have hfin := Lib.hid (fun W (ho : Only (fun _ => False) W1 W) => show Z (.returned (.bool true)) W from by rw [hZ]; exact ⟨rfl, hO1.trans' ho⟩)
  obtain ⟨cv, hcv⟩ : ∃ cv, cv = c.val := ⟨_, rfl⟩
  obtain ⟨RB, hRB⟩ : ∃ RB, RB = rightB ts := ⟨_, rfl⟩
  obtain ⟨C, hC⟩ : ∃ C, C = deepL ts := ⟨_, rfl⟩
  obtain ⟨BZ, hBZ⟩ : ∃ BZ, BZ = bndZ ts := ⟨_, rfl⟩
  obtain ⟨G, hG⟩ : ∃ G, G = grpL ts := ⟨_, rfl⟩
  have cright := Lib.hid (fun W (ho : Only (fun _ => False) W1 W) => show Calls Try.prog 18 #[cv] W (GrowB RB W) from by rw [hcv, hRB]; exact right_any (hTW.out W ho) hn)
  have cdeep := Lib.hid (fun W (ho : Only (fun _ => False) W1 W) => show Calls Try.prog 19 #[cv] W (RowEnd W C) from by rw [hcv, hC]; exact deepest_any (hTW.out W ho) hn)
  have cbound := Lib.hid (fun W (ho : Only (fun _ => False) W1 W) => show Calls Try.prog 20 #[cv] W (GrowI BZ W) from by rw [hcv, hBZ]; exact bound_any (hTW.out W ho) hn)
  have cgroups := Lib.hid (fun W (ho : Only (fun _ => False) W1 W) => show Calls Try.prog 21 #[cv] W (GrpEnd W G) from by rw [hcv, hG]; exact groups_any (hTW.out W ho) hn)
  have hbz : BZ = Chn.depth (frm ts) C := by
    obtain ⟨-, -, -, h4, -⟩ := deepL_ok ts
    rw [hBZ, hC]
    rfl
  cases RB with
  | false =>
    have hno := hRB.symm
    have hC0 : C = [] := by rw [hC]; exact (deepL_ok ts).2.2.2.2.1 hno
    have hB0 : BZ = 0 := by rw [hbz, hC0]; rfl
    have hG0 : G = [] := by rw [hG, grpL, ordL, hno]; rfl
    subst hC0 hB0 hG0
    rw [← hcv]
    unfold ConfV.val at hcv
    subst hcv
    unfold CY at hcy
    unfold ConfV.cells at hW1
    have hW1' := Lib.hid hW1
    clear hT hn hZ hq hO1 b0 hW1 hRB hC hBZ hG hbz hno
    obtain ⟨s0, wy0, h0, mi0, ⟨mA, mn, mc⟩, g0, ⟨cA, cn, cc⟩, ⟨eA, en, ec⟩, ⟨tA, tn, tc⟩, ⟨lA, ln, lc⟩⟩ := c
    dsimp only at *
    go_enter Try.func5, Try.ntmps5
    go_wp2_with fail
    rw [← hW1'.out]
    rw [← hq'.out]
    refine (fixed26_any W1).mono ?_
    rintro e w2 ⟨rfl, ho⟩
    have hO2 := Lib.hid ho
    clear ho
    by_cases h9 : (9 : Int) < tn
    · obtain ⟨d0, d1, d2, d3, d4, d5, d6, d7, d8, d9, dl⟩ := hcy.out w2 hO2.out
      go_wp2_with fail
      refine (cright.out w2 hO2.out).mono ?_
      rintro e w3 ⟨rfl, ho⟩
      have hO3 := Lib.hid (hO2.out.trans' ho)
      clear ho d0 d1 d2 d3 d4 d5 d6 d7 d8 d9 dl
      obtain ⟨d0, d1, d2, d3, d4, d5, d6, d7, d8, d9, dl⟩ := hcy.out w3 hO3.out
      go_wp2_with fail
      refine (cdeep.out w3 hO3.out).mono ?_
      rintro e w4 ⟨A, cap, hh, rfl, -, -, ho⟩
      have hO4 := Lib.hid (hO3.out.trans' ho)
      clear ho d0 d1 d2 d3 d4 d5 d6 d7 d8 d9 dl
      rw [show ([] : List Nat).length = 0 from rfl]
      obtain ⟨d0, d1, d2, d3, d4, d5, d6, d7, d8, d9, dl⟩ := hcy.out w4 hO4.out
      go_wp2_with fail
      refine (cright.out w4 hO4.out).mono ?_
      rintro e w5 ⟨rfl, ho⟩
      have hO5 := Lib.hid (hO4.out.trans' ho)
      clear ho d0 d1 d2 d3 d4 d5 d6 d7 d8 d9 dl
      obtain ⟨d0, d1, d2, d3, d4, d5, d6, d7, d8, d9, dl⟩ := hcy.out w5 hO5.out
      go_wp2_with fail
      refine (cbound.out w5 hO5.out).mono ?_
      rintro e w6 ⟨rfl, ho⟩
      have hO6 := Lib.hid (hO5.out.trans' ho)
      clear ho d0 d1 d2 d3 d4 d5 d6 d7 d8 d9 dl
      obtain ⟨d0, d1, d2, d3, d4, d5, d6, d7, d8, d9, dl⟩ := hcy.out w6 hO6.out
      go_wp2_with fail
      refine (cgroups.out w6 hO6.out).mono ?_
      rintro e w7 ⟨p7, c7, h7, V7, H7, rfl, -, ho⟩
      have hf := Lib.hid (hfin.out w7 (hO6.out.trans' ho))
      clear ho d0 d1 d2 d3 d4 d5 d6 d7 d8 d9 dl
      rw [show ([] : List (List Nat)).length = 0 from rfl]
      go_wp2
      exact hf.out
    · have hO3 := hO2
      obtain ⟨w3, hw3⟩ : ∃ w3, w3 = w2 := ⟨_, rfl⟩
      subst hw3
      obtain ⟨d0, d1, d2, d3, d4, d5, d6, d7, d8, d9, dl⟩ := hcy.out w3 hO3.out
      go_wp2_with fail
      refine (cdeep.out w3 hO3.out).mono ?_
      rintro e w4 ⟨A, cap, hh, rfl, -, -, ho⟩
      have hO4 := Lib.hid (hO3.out.trans' ho)
      clear ho d0 d1 d2 d3 d4 d5 d6 d7 d8 d9 dl
      rw [show ([] : List Nat).length = 0 from rfl]
      obtain ⟨d0, d1, d2, d3, d4, d5, d6, d7, d8, d9, dl⟩ := hcy.out w4 hO4.out
      go_wp2_with fail
      refine (cright.out w4 hO4.out).mono ?_
      rintro e w5 ⟨rfl, ho⟩
      have hO5 := Lib.hid (hO4.out.trans' ho)
      clear ho d0 d1 d2 d3 d4 d5 d6 d7 d8 d9 dl
      obtain ⟨d0, d1, d2, d3, d4, d5, d6, d7, d8, d9, dl⟩ := hcy.out w5 hO5.out
      go_wp2_with fail
      refine (cbound.out w5 hO5.out).mono ?_
      rintro e w6 ⟨rfl, ho⟩
      have hO6 := Lib.hid (hO5.out.trans' ho)
      clear ho d0 d1 d2 d3 d4 d5 d6 d7 d8 d9 dl
      obtain ⟨d0, d1, d2, d3, d4, d5, d6, d7, d8, d9, dl⟩ := hcy.out w6 hO6.out
      go_wp2_with fail
      refine (cgroups.out w6 hO6.out).mono ?_
      rintro e w7 ⟨p7, c7, h7, V7, H7, rfl, -, ho⟩
      have hf := Lib.hid (hfin.out w7 (hO6.out.trans' ho))
      clear ho d0 d1 d2 d3 d4 d5 d6 d7 d8 d9 dl
      rw [show ([] : List (List Nat)).length = 0 from rfl]
      go_wp2
      exact hf.out
  | true =>
    by_cases h9 : (9 : Int) < c.ta.n
    · rw [← hcv]
      unfold ConfV.val at hcv
      subst hcv
      unfold CY at hcy
      unfold ConfV.cells at hW1
      have hW1' := Lib.hid hW1
      clear hT hn hZ hq hO1 b0 hW1 hRB hC hBZ hG hbz
      obtain ⟨s0, wy0, h0, mi0, ⟨mA, mn, mc⟩, g0, ⟨cA, cn, cc⟩, ⟨eA, en, ec⟩, ⟨tA, tn, tc⟩, ⟨lA, ln, lc⟩⟩ := c
      dsimp only at *
      go_enter Try.func5, Try.ntmps5
      go_wp2_with fail
      rw [← hW1'.out]
      rw [← hq'.out]
      refine (fixed26_any W1).mono ?_
      rintro e w2 ⟨rfl, ho⟩
      have hO2 := Lib.hid ho
      clear ho
      obtain ⟨d0, d1, d2, d3, d4, d5, d6, d7, d8, d9, dl⟩ := hcy.out w2 hO2.out
      go_wp2_with fail
      refine (cright.out w2 hO2.out).mono ?_
      rintro e w3 ⟨rfl, ho⟩
      have hf := Lib.hid (hfin.out w3 (hO2.out.trans' ho))
      clear ho d0 d1 d2 d3 d4 d5 d6 d7 d8 d9 dl
      go_wp2
      exact hf.out
    · have hyes := hRB.symm
      obtain ⟨hC1, hC2, hC3, -⟩ := (deepL_ok ts).2
      have hn9 : ts.length ≤ 9 := by have := hT.len; omega
      obtain ⟨_, hTH, _, hF⟩ := right_facts hyes
      have cwant := Lib.hid (fun W (ho : Only (fun _ => False) W1 W) => show Calls Try.prog 22 #[cv] W (fun e W' => ∃ A cap h2, e = .returned (.slice A C.length cap) ∧ Win W' 3 1 (.slice A C.length cap) h2 C.length (dat C) ∧ Only (fun _ => False) W W') from by
        rw [hcv, hC]
        refine (rdeepest_any (hTW.out W ho) (by omega) hTH hF).mono ?_
        rintro e W' ⟨u, rfl, hB, hO⟩
        obtain ⟨A, cap, h2, rfl, hW⟩ := best_row hyes hn9 hB
        exact ⟨A, cap, h2, rfl, hW, hO⟩)
      have cdep := Lib.hid (fun W (ho : Only (fun _ => False) W1 W) (A : Option Addr) (cap : Nat) (hh : Option Nat) (hW : Win W 3 1 (.slice A C.length cap) hh C.length (dat C)) => show Calls Try.prog 23 #[cv, .slice A C.length cap] W (GrowI BZ W) from by
        rw [hcv, hbz, hC]
        rw [hC] at hW
        exact depth_any (hTW.out W ho) (by omega) hW rfl (by omega) hC2 hF)
      obtain ⟨m, hm⟩ : ∃ m, m = C.length := ⟨_, rfl⟩
      unfold RowEnd at cdeep
      rw [← hm] at cdeep cwant cdep
      have hm12 : m ≤ 12 := by rw [hm, hC]; exact hC1
      have hm' := Lib.hid hm
      have hC2' := Lib.hid (show ∀ x ∈ C, x < ts.length from by rw [hC]; exact hC2)
      rw [← hcv]
      unfold ConfV.val at hcv
      subst hcv
      unfold CY at hcy
      unfold ConfV.cells at hW1
      have hW1' := Lib.hid hW1
      clear hT hn hZ hq hO1 b0 hW1 hRB hC hBZ hG hbz hm hC1 hC2 hC3 hTH hF hyes hn9
      obtain ⟨s0, wy0, h0, mi0, ⟨mA, mn, mc⟩, g0, ⟨cA, cn, cc⟩, ⟨eA, en, ec⟩, ⟨tA, tn, tc⟩, ⟨lA, ln, lc⟩⟩ := c
      dsimp only at *
      go_enter Try.func5, Try.ntmps5
      go_wp2_with fail
      rw [← hW1'.out]
      rw [← hq'.out]
      refine (fixed26_any W1).mono ?_
      rintro e w2 ⟨rfl, ho⟩
      have hO2 := Lib.hid ho
      clear ho
      obtain ⟨d0, d1, d2, d3, d4, d5, d6, d7, d8, d9, dl⟩ := hcy.out w2 hO2.out
      go_wp2_with fail
      refine (cdeep.out w2 hO2.out).mono ?_
      rintro e w4 ⟨A, cap, hh, rfl, hW, -, ho⟩
      have hO4 := Lib.hid (hO2.out.trans' ho)
      have hWA := Lib.hid (fun W (ho : Only (fun _ => False) w4 W) => hW.kept ho (fun _ _ h => h))
      clear ho hW d0 d1 d2 d3 d4 d5 d6 d7 d8 d9 dl
      obtain ⟨d0, d1, d2, d3, d4, d5, d6, d7, d8, d9, dl⟩ := hcy.out w4 hO4.out
      go_wp2_with fail
      refine (cright.out w4 hO4.out).mono ?_
      rintro e w5 ⟨rfl, ho⟩
      have hO45 := Lib.hid ho
      have hO5 := Lib.hid (hO4.out.trans' ho)
      clear ho d0 d1 d2 d3 d4 d5 d6 d7 d8 d9 dl
      obtain ⟨d0, d1, d2, d3, d4, d5, d6, d7, d8, d9, dl⟩ := hcy.out w5 hO5.out
      go_wp2_with fail
      refine (cwant.out w5 hO5.out).mono ?_
      rintro e w6 ⟨A2, cap2, hh2, rfl, hW, ho⟩
      have hO46 := Lib.hid (hO45.out.trans' ho)
      have hO6 := Lib.hid (hO5.out.trans' ho)
      have hWB := Lib.hid (fun W (ho : Only (fun _ => False) w6 W) => hW.kept ho (fun _ _ h => h))
      clear ho hW d0 d1 d2 d3 d4 d5 d6 d7 d8 d9 dl
      obtain ⟨d0, d1, d2, d3, d4, d5, d6, d7, d8, d9, dl⟩ := hcy.out w6 hO6.out
      have hex := wd_ex w6
      have p0 := wd_cell d0
      have p1 := wd_cell d1
      have p2 := wd_cell d2
      have p3 := wd_cell d3
      have p4 := wd_cell d4
      have p5 := wd_cell d5
      have p6 := wd_cell d6
      have p7 := wd_cell d7
      have p8 := wd_cell d8
      have p9 := wd_cell d9
      have q1 := Lib.hid (fun (x : Wd w6) => Calls.wd (x := x) (cbound.out x.W (hO6.out.trans' x.ok)))
      have q2 := Lib.hid (fun (x : Wd w6) => Calls.wd (x := x) (cdep.out x.W (hO6.out.trans' x.ok) A2 cap2 hh2 (hWB.out x.W x.ok)))
      have hne : ((m : Int) != (m : Int)) = false := by simp
      go_wp2_with fail
      refine wp_region_wd (by kernel_rfl) (by kernel_rfl) ?_
      repeat (go_big_quiet_step (first | (go_at_call 20; with_reducible exact q1.out _) | (go_at_call 23; with_reducible exact q2.out _)))
      refine wpQuiet_nil ?_
      rintro _ ⟨v, rfl⟩
      have hO7 := Lib.hid v.ok
      obtain ⟨w7, hw7⟩ : ∃ w7, w7 = v.W := ⟨_, rfl⟩
      rw [← hw7] at hO7 ⊢
      clear hw7 p0 p1 p2 p3 p4 p5 p6 p7 p8 p9 hex d0 d1 d2 d3 d4 d5 d6 d7 d8 d9 dl q1 q2
      go_wp2
      go_loopw [5, 50] (fun _ i wr => ∃ k : Nat, i = .int .i64 k ∧ k ≤ m ∧ Hid (Only (fun _ => False) w7 wr)) (fun _ i _ => m - (intOf i).toNat)
      case atStart => exact ⟨0, rfl, Nat.zero_le _, Lib.hid (Only.refl _ _)⟩
      case round =>
        obtain ⟨k, rfl, hk, hOr⟩ := hrel
        obtain ⟨ws, hws⟩ : ∃ ws : World, ws = wr := ⟨_, rfl⟩
        subst hws
        have hO6s := Lib.hid (hO7.out.trans' hOr.out)
        by_cases hkm : k < m
        · have hkm' : (k : Int) < m := by omega
          obtain ⟨x, hx⟩ : ∃ x, C[k]? = some x := ⟨_, List.getElem?_eq_getElem (by have := hm'.out; omega)⟩
          obtain ⟨gl, loff, rfl, cx, cxl⟩ := cell_at (hWA.out ws (hO46.out.trans' hO6s.out)) (dat_at hx)
          obtain ⟨gl2, loff2, rfl, cy, cyl⟩ := cell_at (hWB.out ws hO6s.out) (dat_at hx)
          have px := wd_cell cx
          have py := wd_cell cy
          have hex := wd_ex ws
          clear hx
          go_wp2_with fail
          refine wp_region_wd (by kernel_rfl) (by kernel_rfl) ?_
          repeat (go_big_quiet_step (fail))
          refine wpQuiet_nil ?_
          rintro _ ⟨v, rfl⟩
          have hO8 := Lib.hid (hOr.out.trans' v.ok)
          obtain ⟨w8, hw8⟩ : ∃ w8, w8 = v.W := ⟨_, rfl⟩
          rw [← hw8] at hO8 ⊢
          clear hw8 px py hex cx cy cxl cyl
          go_wp2
          go_roundw
          case rel => exact ⟨k + 1, by go_num, by omega, hO8⟩
          case measure => simp [intOf]; omega
        · obtain rfl : k = m := by omega
          have hf := Lib.hid (hfin.out ws (hO6.out.trans' hO6s.out))
          go_wp2
          exact hf.out
theorem tells_law (c : ConfV) (W : World) (hC : ConfThIn W c) :
    Calls Try.prog 5 #[c.val] W fun e w' => e = .returned (.bool true) ∧ Below W.heap.size W w' := by
  obtain ⟨ts, h1, h2, _⟩ := hC
  exact (chainTells_any h1 h2).mono fun e w' ⟨he, hO⟩ => ⟨he, hO.below (Nat.le_refl _) (fun _ h => h.elim)⟩
end Bch
end Go.Proofs.Ytdoimkmhincmmaa
