/- preempt: the reference. -/
import Derived.Test.YtlbinlhaejhobaaGreatDoorPre6
import Derived.Test.YtlbinlhaejhobaaGreatDoorRlo
namespace Go.Proofs.YtlbinlhaejhobaaGreatDoor
namespace Pre
open Go Go.RowKit Rca Sct Lin Lck Cst Rld
open Bch (U sA sC sA_le sC_le GrowU)

theorem rofU_any (z : Int) (w : World) : Calls Tryz.prog 89 #[.int .i64 z] w (fun e w' => e = .returned (U (ofU z)) ∧ w' = w) := by
  obtain ⟨V, hV⟩ : ∃ V, V = IntKind.u64.wrap (max z 0) := ⟨_, rfl⟩
  have hV' := Lib.hid (show (ofU z : Int) = V by rw [hV]; exact ofU_eq z)
  by_cases h0 : z < 0
  · rw [show max z 0 = 0 by omega] at hV
    have hV2 := Lib.hid hV
    clear hV
    go_enter Tryz.func89, Tryz.ntmps89
    go_wp2
    go_ret
    exact ⟨by rw [U, hV'.out, hV2.out] <;> first | rfl | (congr 2; omega), rfl⟩
  · rw [show max z 0 = z by omega] at hV
    have hV2 := Lib.hid hV
    clear hV
    go_enter Tryz.func89, Tryz.ntmps89
    go_wp2
    go_ret
    exact ⟨by rw [U, hV'.out, hV2.out] <;> first | rfl | (congr 2; omega), rfl⟩
theorem sA_small {a b : Nat} (h : a + b ≤ 18446744073709551615) : sA a b = a + b := by
  unfold sA
  rw [if_neg (by omega)]
theorem kepU_neg {s : Nat} {fl : Int} (h : fl ≤ 0) : kepU s fl = s := by
  unfold kepU
  rw [ofU_small (by omega), if_pos (by omega)]
theorem kepU_pos {s : Nat} {fl : Int} (h : 0 < fl) (h9 : fl ≤ 1099511627776) (hs : s ≤ 1099511627776) : kepU s fl = fl.toNat + 2 * s := by
  unfold kepU
  rw [ofU_small (by omega), if_neg (by omega)]
  rw [sA_small (a := 0) (by omega), Nat.zero_add, sA_small (a := fl.toNat) (by omega), sA_small (by omega)]
  omega
set_option maxRecDepth 100000 in
set_option maxHeartbeats 4000000 in
theorem rblocking_any {w : World} {c : ConfV} {d : ConfL} {pl : Tks} (hC : ConfIn w c d pl) (hen : c.ce.n ≤ 4096) {i j : Nat} {t tj : TaskV} {l : List Opn} (hi : pl[i]? = some (t, l)) (hj : pl.ts[j]? = some tj) (hl9 : l.length ≤ 1000) (htn : c.ta.n ≤ 1000000) (hfl : t.fl ≤ 1099511627776) :
    Calls Tryz.prog 84 #[c.val, .int .i64 (i : Int), .int .i64 (j : Int)] w (GrowU (blkU (wrsZ l c.h c.mi).toNat (lonZ t.th (ceZ d.ce) c.ce.n l c.h c.mi tj.p).toNat t.th t.fl tj.p) w) := by
  obtain ⟨q, hq⟩ : ∃ q, q = w.heap.size := ⟨_, rfl⟩
  obtain ⟨W2, hW2⟩ : ∃ W2, W2 = w.alloc (.cells c.cells.toArray 27) := ⟨_, rfl⟩
  have hO2 : Only (fun _ => False) w W2 := by rw [hW2]; exact (Only.refl _ w).alloc _
  have b0 : W2.heap[q]? = some (.cells c.cells.toArray 27 (0, 0)) := by rw [hW2]; exact heap_new_at _ _ hq.symm
  have hq' := Lib.hid hq
  have hpl := ts_len hC
  have hin : i < c.ta.n := by have := (List.getElem?_eq_some_iff.1 hi).1; omega
  have hjn : j < c.ta.n := by have := (List.getElem?_eq_some_iff.1 hj).1; unfold Tks.ts at this; rw [List.length_map] at this; omega
  obtain ⟨cv, hcv⟩ : ∃ cv, cv = c.val := ⟨_, rfl⟩
  have hlt : l.length = t.o.n := (hC.p i t l hi).2.1
  have csum := Lib.hid (fun W (ho : Only (fun _ => False) W2 W) => show Calls Tryz.prog 58 #[.slice t.o.A t.o.n t.o.cap, .agg #[.int .i64 c.s, .int .i64 c.wy, .int .i64 c.h, .int .i64 c.mi], .bool false] W (GrowI (wrsZ l c.h c.mi) W) from by
    have := rsum_any (cap := t.o.cap) ((hC.new (hO2.trans' ho)).p i t l hi).1 hlt (by omega) c.s c.wy c.h c.mi
    rw [← hlt] at this ⊢
    exact this)
  obtain ⟨hz0, hz9⟩ := wrsZ_le (h := c.h) (mi := c.mi) hl9
  obtain ⟨z, hz⟩ : ∃ z, z = wrsZ l c.h c.mi := ⟨_, rfl⟩
  rw [← hz] at csum hz0 hz9 ⊢
  have cof := Lib.hid (fun W => rofU_any z W)
  rw [ofU_small (by omega)] at cof
  obtain ⟨wr, hwr⟩ : ∃ s, s = z.toNat := ⟨_, rfl⟩
  have hwr9 : wr ≤ 18446744073709551615 := by omega
  rw [← hwr] at cof ⊢
  have clon := Lib.hid (fun W (ho : Only (fun _ => False) W2 W) => show Calls Tryz.prog 38 #[cv, .int .i64 (i : Int), .int .i64 tj.p] W (GrowI (lonZ t.th (ceZ d.ce) c.ce.n l c.h c.mi tj.p) W) from by
    rw [hcv]; exact rlong_any (hC.new (hO2.trans' ho)) hen (fun W' ho' => (hC.new ((hO2.trans' ho).trans' ho')).ce) hi hl9 tj.p)
  obtain ⟨hy0, hy9⟩ := lonZ_le t.th (ceZ d.ce) c.ce.n c.h c.mi tj.p hl9
  obtain ⟨y, hy⟩ : ∃ y, y = lonZ t.th (ceZ d.ce) c.ce.n l c.h c.mi tj.p := ⟨_, rfl⟩
  rw [← hy] at clon hy0 hy9 ⊢
  have cof2 := Lib.hid (fun W => rofU_any y W)
  rw [ofU_small (by omega)] at cof2
  obtain ⟨lg, hlg⟩ : ∃ s, s = y.toNat := ⟨_, rfl⟩
  have hlg9 : lg ≤ 1099511627776 := by omega
  rw [← hlg] at cof2 ⊢
  have cof3 := Lib.hid (fun W => rofU_any t.fl W)
  have hcy := Lib.hid (fun W (ho : Only (fun _ => False) W2 W) => cyv_of (ho.heap b0 (fun h => h)))
  have htai := Lib.hid (fun W (h : Only (fun _ => False) W2 W) => (hC.new (hO2.trans' h)).t.at_ i t (ts_some hi))
  have htaj := Lib.hid (fun W (h : Only (fun _ => False) W2 W) => (hC.new (hO2.trans' h)).t.at_ j tj hj)
  have hilt : (i : Int) < c.ta.n := by omega
  have hjlt : (j : Int) < c.ta.n := by omega
  obtain ⟨Z, hZ⟩ : ∃ Z, Z = GrowU (blkU wr lg t.th t.fl tj.p) w := ⟨_, rfl⟩
  rw [← hZ]
  have hZ0 := Lib.hid (fun (h : tj.p ≤ t.th) W (ho : Only (fun _ => False) W2 W) => show Z (.returned (U wr)) W from by rw [hZ, blkU, if_pos h]; exact ⟨rfl, hO2.trans' ho⟩)
  have hZ1 := Lib.hid (fun (h : ¬ tj.p ≤ t.th) (v : Nat) (hv : v = min wr (kepU lg t.fl)) W (ho : Only (fun _ => False) W2 W) => show Z (.returned (U v)) W from by rw [hZ, blkU, if_neg h, ← hv]; exact ⟨rfl, hO2.trans' ho⟩)
  rw [← hcv]
  unfold ConfV.val at hcv
  subst hcv
  unfold CYv at hcy
  unfold ConfV.cells at hW2
  have hW2' := Lib.hid hW2
  clear hC hi hj hZ hq hO2 b0 hW2 hz hwr hy hlg hlt hin hjn hpl hl9
  obtain ⟨c0, wy, h, mi, ⟨mA, mn, mc⟩, g, ⟨cA, cn, cc⟩, ⟨eA, en, ec⟩, ⟨tA, tn, tc⟩, ⟨lA, ln, lc⟩⟩ := c
  obtain ⟨tp, tth, tpe, tde, tfr, tfl, ⟨oA, on, oc⟩⟩ := t
  dsimp only at *
  obtain ⟨d0, d1, d2, d3, d4, d5, d6, d7, d8, d9, dl⟩ := hcy.out W2 (Only.refl _ _)
  obtain ⟨b, off, hA, hb, ⟨f0, f1, f2, f3, f4, f5, f6⟩⟩ := htai.out W2 (Only.refl _ _)
  subst hA
  dsimp only at f0 f1 f2 f3 f4 f5 f6
  go_enter Tryz.func84, Tryz.ntmps84
  go_upto_region 1 with fail
  rw [← hq'.out]
  rw [← hW2'.out]
  go_upto_region 2 with fail
  obtain ⟨Y, hY⟩ : ∃ Y, Y = W2.heap.size := ⟨_, rfl⟩
  obtain ⟨W3, hW3⟩ : ∃ W3, W3 = W2.alloc (.cells #[.int .i64 tp, .int .i64 tth, .int .i64 tpe, .int .i64 tde, .int .i64 tfr, .int .i64 tfl, .slice oA on oc] 49) := ⟨_, rfl⟩
  rw [← hW3, ← hY]
  have hO3 : Only (fun _ => False) W2 W3 := by rw [hW3]; exact (Only.refl _ _).alloc _
  have hYb : W3.heap[Y]? = some (.cells #[.int .i64 tp, .int .i64 tth, .int .i64 tpe, .int .i64 tde, .int .i64 tfr, .int .i64 tfl, .slice oA on oc] 49 (0, 0)) := by rw [hW3]; exact heap_new_at _ _ hY.symm
  have hyb := Lib.hid (fun W (ho : Only (fun _ => False) W3 W) => ho.heap hYb (fun h => h))
  have hO3' := Lib.hid hO3
  clear hW3 hY d0 d1 d2 d3 d4 d5 d6 d7 d8 d9 dl f0 f1 f2 f3 f4 f5 f6 hb hO3
  obtain ⟨d0, d1, d2, d3, d4, d5, d6, d7, d8, d9, dl⟩ := hcy.out W3 hO3'.out
  have y6 := row_cell (L := [.int .i64 tp, .int .i64 tth, .int .i64 tpe, .int .i64 tde, .int .i64 tfr, .int .i64 tfl, .slice oA on oc]) hYb (i := 6) rfl
  have hyl := row_lt hYb
  clear hYb
  go_wp2_with fail
  refine (csum.out W3 hO3'.out).mono ?_
  rintro e w4 ⟨rfl, ho⟩
  have hO34 := Lib.hid ho
  have hO4 := Lib.hid (hO3'.out.trans' ho)
  clear ho y6 hyl d0 d1 d2 d3 d4 d5 d6 d7 d8 d9 dl
  go_wp2_with fail
  refine (cof.out _).mono ?_
  rintro e w5 ⟨rfl, hw5⟩
  subst hw5
  obtain ⟨d0, d1, d2, d3, d4, d5, d6, d7, d8, d9, dl⟩ := hcy.out w5 hO4.out
  obtain ⟨b2, off2, hA, hb2, hCj⟩ := htaj.out w5 hO4.out
  cases hA
  have f0 := hCj.c0
  have hyw := hyb.out w5 hO34.out
  have y1 := row_cell (L := [.int .i64 tp, .int .i64 tth, .int .i64 tpe, .int .i64 tde, .int .i64 tfr, .int .i64 tfl, .slice oA on oc]) hyw (i := 1) rfl
  have hyl := row_lt hyw
  have p8 := wd_cell d8
  have g1 := wd_cell y1
  have g0 := wd_cell f0
  have hex := wd_ex w5
  obtain ⟨ow, how⟩ : ∃ ow, ow = tj.p := ⟨_, rfl⟩
  rw [← how] at f0 g0 hZ0 hZ1 clon
  have how' := Lib.hid how
  clear hCj how hyw
  by_cases hle : ow ≤ tth
  · go_wp2_with fail
    refine wp_region_wd (by kernel_rfl) (by kernel_rfl) ?_
    repeat (go_big_quiet_step (fail))
    refine wpQuiet_nil ?_
    rintro _ ⟨v, rfl⟩
    have hf := Lib.hid (hZ0.out hle v.W (hO4.out.trans' v.ok))
    go_wp2
    exact hf.out
  · go_wp2_with fail
    refine wp_region_wd (by kernel_rfl) (by kernel_rfl) ?_
    repeat (go_big_quiet_step (fail))
    refine wpQuiet_nil ?_
    rintro _ ⟨v, rfl⟩
    have hf := Lib.hid (hZ1.out hle)
    have hO36 := Lib.hid (hO34.out.trans' v.ok)
    have hO6 := Lib.hid (hO4.out.trans' v.ok)
    obtain ⟨w6, hw6⟩ : ∃ w6, w6 = v.W := ⟨_, rfl⟩
    rw [← hw6] at hO6 hO36 ⊢
    clear hw6 hex p8 g1 g0 y1 hyl f0 d0 d1 d2 d3 d4 d5 d6 d7 d8 d9 dl hb2
    obtain ⟨d0, d1, d2, d3, d4, d5, d6, d7, d8, d9, dl⟩ := hcy.out w6 hO6.out
    obtain ⟨b2, off2, hA, hb2, hCj⟩ := htaj.out w6 hO6.out
    cases hA
    have f0 := hCj.c0
    rw [← how'.out] at f0
    have g0 := wd_cell f0
    clear hCj
    have p0 := wd_cell d0
    have p1 := wd_cell d1
    have p2 := wd_cell d2
    have p3 := wd_cell d3
    have p4 := wd_cell d4
    have p5 := wd_cell d5
    have p6 := wd_cell d6
    have p7 := wd_cell d7
    have p8 := wd_cell d8
    have p9 := wd_cell d9
    have q1 := Lib.hid (fun (x : Wd w6) => Calls.wd (x := x) (clon.out x.W (hO6.out.trans' x.ok)))
    have q2 := Lib.hid (fun (x : Wd w6) => Calls.wd_same (x := x) ((cof2.out x.W).mono fun _ _ h => ⟨h.1, h.2.symm⟩))
    have hex := wd_ex w6
    go_wp2_with fail
    refine wp_region_wd (by kernel_rfl) (by kernel_rfl) ?_
    repeat (go_big_quiet_step (first | (go_at_call 38; with_reducible exact q1.out _) | (go_at_call 89; with_reducible exact q2.out _)))
    refine wpQuiet_nil ?_
    rintro _ ⟨v, rfl⟩
    have hO37 := Lib.hid (hO36.out.trans' v.ok)
    have hO7 := Lib.hid (hO6.out.trans' v.ok)
    obtain ⟨w7, hw7⟩ : ∃ w7, w7 = v.W := ⟨_, rfl⟩
    rw [← hw7] at hO7 hO37 ⊢
    clear hw7 hex p0 p1 p2 p3 p4 p5 p6 p7 p8 p9 g0 q1 q2 f0 d0 d1 d2 d3 d4 d5 d6 d7 d8 d9 dl hb2
    have hyw := hyb.out w7 hO37.out
    have y5 := row_cell (L := [.int .i64 tp, .int .i64 tth, .int .i64 tpe, .int .i64 tde, .int .i64 tfr, .int .i64 tfl, .slice oA on oc]) hyw (i := 5) rfl
    have hyl := row_lt hyw
    clear hyw
    by_cases hf0 : 0 < tfl
    · have hk := kepU_pos hf0 hfl hlg9
      rw [ofU_small (by omega)] at cof3
      rw [hk] at hf
      obtain ⟨F, hF⟩ : ∃ F, F = tfl.toNat := ⟨_, rfl⟩
      have hF9 : F ≤ 1099511627776 := by omega
      rw [← hF] at cof3 hf
      have hw1 : IntKind.u64.wrap (2 * (lg : Int)) = 2 * (lg : Int) := by rw [IntKind.wrap_u64]; omega
      have hw2 : IntKind.u64.wrap ((F : Int) + 2 * (lg : Int)) = ((F + 2 * lg : Nat) : Int) := by rw [IntKind.wrap_u64]; omega
      obtain ⟨K, hK⟩ : ∃ K, K = F + 2 * lg := ⟨_, rfl⟩
      rw [← hK] at hf hw2
      clear hF hk hK
      go_wp2_with fail
      refine (cof3.out _).mono ?_
      rintro e w8 ⟨rfl, hw8⟩
      subst hw8
      clear y5 hyl
      by_cases hmm : wr ≤ K
      · have hmi : (wr : Int) ≤ (K : Int) := by omega
        have hf2 := Lib.hid (hf.out wr (by omega) w8 hO7.out)
        go_wp2
        exact hf2.out
      · have hmi : ¬ (wr : Int) ≤ (K : Int) := by omega
        have hmi2 : (K : Int) < (wr : Int) := by omega
        have hf2 := Lib.hid (hf.out K (by omega) w8 hO7.out)
        go_wp2
        exact hf2.out
    · have hk := kepU_neg (s := lg) (show tfl ≤ 0 by omega)
      rw [hk] at hf
      by_cases hmm : wr ≤ lg
      · have hmi : (wr : Int) ≤ (lg : Int) := by omega
        have hf2 := Lib.hid (hf.out wr (by omega) w7 hO7.out)
        go_wp2
        exact hf2.out
      · have hmi : ¬ (wr : Int) ≤ (lg : Int) := by omega
        have hmi2 : (lg : Int) < (wr : Int) := by omega
        have hf2 := Lib.hid (hf.out lg (by omega) w7 hO7.out)
        go_wp2
        exact hf2.out
set_option maxRecDepth 100000 in
set_option maxHeartbeats 4000000 in
theorem rcount_any {w : World} {c : ConfV} {ts : List TaskV} (hT : TasksAt w c.ta ts) (hs9 : c.ta.n ≤ 1000000) {win : Nat} (hwin : win ≤ 18446744073709551615) {i : Nat} {ti : TaskV} (hi : ts[i]? = some ti) :
    Calls Tryz.prog 57 #[c.val, .int .i64 (i : Int), U win] w (GrowU (totU (cntU ts win) (aboU ts ti.th c.ta.n)) w) := by
  obtain ⟨q, hq⟩ : ∃ q, q = w.heap.size := ⟨_, rfl⟩
  obtain ⟨W2, hW2⟩ : ∃ W2, W2 = w.alloc (.cells c.cells.toArray 27) := ⟨_, rfl⟩
  have hO2 : Only (fun _ => False) w W2 := by rw [hW2]; exact (Only.refl _ w).alloc _
  have b0 : W2.heap[q]? = some (.cells c.cells.toArray 27 (0, 0)) := by rw [hW2]; exact heap_new_at _ _ hq.symm
  have hq' := Lib.hid hq
  have hcy := Lib.hid (fun W (ho : Only (fun _ => False) W2 W) => cyv_of (ho.heap b0 (fun h => h)))
  obtain ⟨cv, hcv⟩ : ∃ cv, cv = c.val := ⟨_, rfl⟩
  have cab := Lib.hid (show Calls Tryz.prog 87 #[cv, .int .i64 (i : Int)] W2 (RowEnd W2 (aboU ts ti.th c.ta.n)) from by rw [hcv]; exact rabove_any (hT.new hO2) hs9 hi)
  obtain ⟨L, hL⟩ : ∃ L, L = aboU ts ti.th c.ta.n := ⟨_, rfl⟩
  have hLm := Lib.hid (fun x (hx : x ∈ L) => show x < c.ta.n from by rw [hL] at hx; exact (aboU_mem.1 hx).1)
  have hL9 : L.length ≤ 1000000 := by rw [hL]; exact Nat.le_trans (aboU_len _ _ _) hs9
  rw [← hL] at cab ⊢
  unfold RowEnd at cab
  obtain ⟨m, hm⟩ : ∃ m, m = L.length := ⟨_, rfl⟩
  rw [← hm] at cab hL9
  have hm' := Lib.hid hm
  obtain ⟨f, hf⟩ : ∃ f, f = cntU ts win := ⟨_, rfl⟩
  rw [← hf]
  have hfx := Lib.hid (fun x t (ht : ts[x]? = some t) => show f x = sC win (ofU t.pe) from by rw [hf, cntU, per_at ht])
  have hT0 := Lib.hid (show totU f (L.take 0) = 0 from rfl)
  have hta := Lib.hid (fun W (ho : Only (fun _ => False) W2 W) x (hx : x < c.ta.n) => show ∃ b off t, c.ta.A = some ⟨b, off, none⟩ ∧ b < W.heap.size ∧ ts[x]? = some t ∧ W.cell? ⟨b, off + x * 7 + 2, none⟩ = some (.int .i64 t.pe) from by
    obtain ⟨t, ht⟩ : ∃ t, ts[x]? = some t := ⟨_, List.getElem?_eq_getElem (by rw [hT.len]; exact hx)⟩
    obtain ⟨b, off, hA, hb, hCe⟩ := (hT.new (hO2.trans' ho)).at_ x t ht
    exact ⟨b, off, t, hA, hb, ht, hCe.c2⟩)
  obtain ⟨Z, hZ⟩ : ∃ Z, Z = GrowU (totU f L) w := ⟨_, rfl⟩
  rw [← hZ]
  have hfin := Lib.hid (fun W (ho : Only (fun _ => False) W2 W) => show Z (.returned (U (totU f L))) W from by rw [hZ]; exact ⟨rfl, hO2.trans' ho⟩)
  rw [← hcv]
  unfold ConfV.val at hcv
  subst hcv
  unfold CYv at hcy
  unfold ConfV.cells at hW2
  have hW2' := Lib.hid hW2
  clear hT hi hZ hq hO2 b0 hW2 hL hf hm
  obtain ⟨c0, wy, h, mi, ⟨mA, mn, mc⟩, g, ⟨cA, cn, cc⟩, ⟨eA, en, ec⟩, ⟨tA, tn, tc⟩, ⟨lA, ln, lc⟩⟩ := c
  dsimp only at *
  obtain ⟨d0, d1, d2, d3, d4, d5, d6, d7, d8, d9, dl⟩ := hcy.out W2 (Only.refl _ _)
  go_enter Tryz.func57, Tryz.ntmps57
  go_upto_region 2 with fail
  rw [← hq'.out]
  rw [← hW2'.out]
  go_wp2_with fail
  refine cab.out.mono ?_
  rintro e w3 ⟨p, cp, hh, rfl, hW, -, ho⟩
  have hO3 := Lib.hid ho
  have hW' := Lib.hid (fun W (ho : Only (fun _ => False) w3 W) => hW.kept ho (fun _ _ h => h))
  clear ho hW d0 d1 d2 d3 d4 d5 d6 d7 d8 d9 dl cab
  go_wp2
  go_loopw [7, 9, 14] (fun u5 _ i wr => ∃ k : Nat, i = .int .i64 k ∧ k ≤ m ∧ u5 = U (totU f (L.take k)) ∧ Hid (Only (fun _ => False) w3 wr)) (fun _ _ i _ => m - (intOf i).toNat)
  case atStart => exact ⟨0, rfl, Nat.zero_le _, by rw [hT0.out]; rfl, Lib.hid (Only.refl _ _)⟩
  case round =>
    obtain ⟨k, rfl, hk, rfl, hO⟩ := hrel
    obtain ⟨ws, hws⟩ : ∃ ws : World, ws = wr := ⟨_, rfl⟩
    subst hws
    have hOs := Lib.hid (hO3.out.trans' hO.out)
    obtain ⟨S, hS⟩ : ∃ S, S = totU f (L.take k) := ⟨_, rfl⟩
    have hS9 : S ≤ 18446744073709551615 := by rw [hS]; exact totU_le _ _
    rw [← hS]
    by_cases hkm : k < m
    · have hkm' : (k : Int) < m := by omega
      obtain ⟨x, hx⟩ : ∃ x, L[k]? = some x := ⟨_, List.getElem?_eq_getElem (by have := hm'.out; omega)⟩
      obtain ⟨gg, off, rfl, cx, cxl⟩ := cell_at (hW'.out ws hO.out) (dat_at hx)
      have hxn := hLm.out x (List.mem_of_getElem? hx)
      have hxn' : (x : Int) < tn := by omega
      obtain ⟨tb, toff, t, rfl, htb, ht, f2⟩ := hta.out ws hOs.out x hxn
      have hsu := Lib.hid (show totU f (L.take (k + 1)) = sA S (sC win (ofU t.pe)) by rw [totU_snoc hx, hS, hfx.out x t ht])
      have q1 := Lib.hid (fun W => rofU_any t.pe W)
      have q2 := Lib.hid (fun W => Bch.rceil_any win (ofU t.pe) W hwin (ofU_le _))
      have q3 := Lib.hid (fun W => Bch.radd_any S (sC win (ofU t.pe)) W hS9 (sC_le hwin))
      obtain ⟨P, hP⟩ : ∃ P, P = ofU t.pe := ⟨_, rfl⟩
      rw [← hP] at q1 q2 q3 hsu
      obtain ⟨Q, hQ⟩ : ∃ Q, Q = sC win P := ⟨_, rfl⟩
      rw [← hQ] at q2 q3 hsu
      obtain ⟨R, hR⟩ : ∃ R, R = sA S Q := ⟨_, rfl⟩
      rw [← hR] at q3 hsu
      clear hx hS hP hQ hR ht
      obtain ⟨d0, d1, d2, d3, d4, d5, d6, d7, d8, d9, dl⟩ := hcy.out ws hOs.out
      go_wp2_with fail
      refine (q1.out _).mono ?_
      rintro e w4 ⟨rfl, hw4⟩
      subst hw4
      clear q1 cx cxl f2 d0 d1 d2 d3 d4 d5 d6 d7 d8 d9 dl
      go_wp2_with fail
      refine (q2.out _).mono ?_
      rintro e w5 ⟨rfl, hw5⟩
      subst hw5
      go_wp2_with fail
      refine (q3.out _).mono ?_
      rintro e w6 ⟨rfl, hw6⟩
      subst hw6
      go_wp2
      go_roundw
      case rel => exact ⟨k + 1, by go_num, by omega, by rw [hsu.out], hO⟩
      case measure => simp [intOf]; omega
    · obtain rfl : k = m := by omega
      have hf2 := Lib.hid (show Z (.returned (U S)) ws from by rw [hS, List.take_of_length_le (by have := hm'.out; omega)]; exact hfin.out ws hOs.out)
      clear hS
      go_wp2
      exact hf2.out
theorem dly_succ {f : Nat → Nat} {g : Int → Int → Bool} {ts : List TaskV} {own : Int} {k : Nat} : dlyU f (thoseU g ts own (k + 1)) = if g (prio ts k) own = true then max (dlyU f (thoseU g ts own k)) (f k) else dlyU f (thoseU g ts own k) := by
  rw [thoseU_succ]
  split
  · unfold dlyU
    rw [List.foldl_append]
    rfl
  · rw [List.append_nil]
set_option maxRecDepth 100000 in
set_option maxHeartbeats 4000000 in
theorem rdelay_any {w : World} {c : ConfV} {d : ConfL} {pl : Tks} (hC : ConfIn w c d pl) (hen : c.ce.n ≤ 4096) (htn : c.ta.n ≤ 1000000) (hl9 : ∀ (k : Nat) t l, pl[k]? = some (t, l) → l.length ≤ 1000) (hfl : ∀ (k : Nat) t l, pl[k]? = some (t, l) → t.fl ≤ 1099511627776) {i : Nat} {ti : TaskV} (hi : pl.ts[i]? = some ti) :
    Calls Tryz.prog 53 #[c.val, .int .i64 (i : Int)] w (GrowU (dlyU (blkI c d pl ti.p) (thoseU lowB pl.ts ti.p c.ta.n)) w) := by
  obtain ⟨q, hq⟩ : ∃ q, q = w.heap.size := ⟨_, rfl⟩
  obtain ⟨W2, hW2⟩ : ∃ W2, W2 = w.alloc (.cells c.cells.toArray 27) := ⟨_, rfl⟩
  have hO2 : Only (fun _ => False) w W2 := by rw [hW2]; exact (Only.refl _ w).alloc _
  have b0 : W2.heap[q]? = some (.cells c.cells.toArray 27 (0, 0)) := by rw [hW2]; exact heap_new_at _ _ hq.symm
  have hq' := Lib.hid hq
  have hcy := Lib.hid (fun W (ho : Only (fun _ => False) W2 W) => cyv_of (ho.heap b0 (fun h => h)))
  obtain ⟨cv, hcv⟩ : ∃ cv, cv = c.val := ⟨_, rfl⟩
  obtain ⟨f, hf⟩ : ∃ f, f = blkI c d pl ti.p := ⟨_, rfl⟩
  have hin : (i : Int) < c.ta.n := by have := (List.getElem?_eq_some_iff.1 hi).1; have := hC.t.len; omega
  have cblk := Lib.hid (fun W (ho : Only (fun _ => False) W2 W) (x : Nat) (hxn : x < c.ta.n) => show Calls Tryz.prog 84 #[cv, .int .i64 (x : Int), .int .i64 (i : Int)] W (GrowU (f x) W) from by
    obtain ⟨⟨t, l⟩, hxp⟩ : ∃ y, pl[x]? = some y := ⟨_, List.getElem?_eq_getElem (by rw [ts_len hC]; exact hxn)⟩
    have hfx : f x = blkU (wrsZ l c.h c.mi).toNat (lonZ t.th (ceZ d.ce) c.ce.n l c.h c.mi ti.p).toNat t.th t.fl ti.p := by rw [hf]; unfold blkI; rw [hxp]
    rw [hcv, hfx]
    exact rblocking_any (hC.new (hO2.trans' ho)) hen hxp hi (hl9 x t l hxp) htn (hfl x t l hxp))
  rw [← hf]
  obtain ⟨D, hD⟩ : ∃ D, D = fun k => dlyU f (thoseU lowB pl.ts ti.p k) := ⟨_, rfl⟩
  have hDs := Lib.hid (fun k t (ht : pl.ts[k]? = some t) => show D (k + 1) = if lowB t.p ti.p = true then max (D k) (f k) else D k from by rw [hD]; dsimp only; rw [dly_succ, prio_at ht])
  have hD0 := Lib.hid (show D 0 = 0 from by rw [hD]; rfl)
  have hta := Lib.hid (fun W (ho : Only (fun _ => False) W2 W) x (hx : x < c.ta.n) => show ∃ b off t, c.ta.A = some ⟨b, off, none⟩ ∧ b < W.heap.size ∧ pl.ts[x]? = some t ∧ TaskCells W b (off + x * 7) t from by
    have hT := (hC.new (hO2.trans' ho)).t
    obtain ⟨t, ht⟩ : ∃ t, pl.ts[x]? = some t := ⟨_, List.getElem?_eq_getElem (by rw [hT.len]; exact hx)⟩
    obtain ⟨b, off, hA, hb, hCe⟩ := hT.at_ x t ht
    exact ⟨b, off, t, hA, hb, ht, hCe⟩)
  have htai := Lib.hid (fun W (h : Only (fun _ => False) W2 W) => (hC.new (hO2.trans' h)).t.at_ i ti hi)
  obtain ⟨Z, hZ⟩ : ∃ Z, Z = GrowU (dlyU f (thoseU lowB pl.ts ti.p c.ta.n)) w := ⟨_, rfl⟩
  rw [← hZ]
  have hfin := Lib.hid (fun W (ho : Only (fun _ => False) W2 W) => show Z (.returned (U (D c.ta.n))) W from by rw [hZ, hD]; exact ⟨rfl, hO2.trans' ho⟩)
  rw [← hcv]
  unfold ConfV.val at hcv
  subst hcv
  unfold CYv at hcy
  unfold ConfV.cells at hW2
  have hW2' := Lib.hid hW2
  clear hC hi hZ hq hO2 b0 hW2 hf hD hl9 hfl
  obtain ⟨c0, wy, h, mi, ⟨mA, mn, mc⟩, g, ⟨cA, cn, cc⟩, ⟨eA, en, ec⟩, ⟨tA, tn, tc⟩, ⟨lA, ln, lc⟩⟩ := c
  dsimp only at *
  obtain ⟨d0, d1, d2, d3, d4, d5, d6, d7, d8, d9, dl⟩ := hcy.out W2 (Only.refl _ _)
  go_enter Tryz.func53, Tryz.ntmps53
  go_upto_region 2 with fail
  rw [← hq'.out]
  rw [← hW2'.out]
  go_wp2
  clear d0 d1 d2 d3 d4 d5 d6 d7 d8 d9 dl
  go_loopw [5, 6, 7, 11] (fun u5 _ _ i wr => ∃ k : Nat, i = .int .i64 k ∧ k ≤ tn ∧ u5 = U (D k) ∧ Hid (Only (fun _ => False) W2 wr)) (fun _ _ _ i _ => tn - (intOf i).toNat)
  case atStart => exact ⟨0, rfl, Nat.zero_le _, by rw [hD0.out]; rfl, Lib.hid (Only.refl _ _)⟩
  case round =>
    obtain ⟨k, rfl, hk, rfl, hO⟩ := hrel
    obtain ⟨ws, hws⟩ : ∃ ws : World, ws = wr := ⟨_, rfl⟩
    subst hws
    obtain ⟨S, hS⟩ : ∃ S, S = D k := ⟨_, rfl⟩
    rw [← hS]
    by_cases hkm : k < tn
    · have hkm' : (k : Int) < tn := by omega
      obtain ⟨tb, toff, t, rfl, htb, ht, f0, f1, f2, f3, f4, f5, f6⟩ := hta.out ws hO.out k hkm
      obtain ⟨tb2, toff2, hA, htb2, hCi⟩ := htai.out ws hO.out
      cases hA
      have e0 := hCi.c0
      have hsu := Lib.hid (hDs.out k t ht)
      rw [← hS] at hsu
      have q1 := Lib.hid (fun W (ho : Only (fun _ => False) W2 W) => cblk.out W ho k hkm)
      obtain ⟨F, hF⟩ : ∃ F, F = f k := ⟨_, rfl⟩
      rw [← hF] at hsu q1
      obtain ⟨tp, tth, tpe, tde, tfr, tfl, ⟨oA, on, oc⟩⟩ := t
      dsimp only at f0 f1 f2 f3 f4 f5 f6 hsu
      obtain ⟨ow, how⟩ : ∃ ow, ow = ti.p := ⟨_, rfl⟩
      rw [← how] at e0 hsu
      clear hS hF ht hCi how
      obtain ⟨d0, d1, d2, d3, d4, d5, d6, d7, d8, d9, dl⟩ := hcy.out ws hO.out
      go_wp2_with fail
      obtain ⟨Y, hY⟩ : ∃ Y, Y = ws.heap.size := ⟨_, rfl⟩
      obtain ⟨w5, hw5⟩ : ∃ w5, w5 = ws.alloc (.cells #[.int .i64 tp, .int .i64 tth, .int .i64 tpe, .int .i64 tde, .int .i64 tfr, .int .i64 tfl, .slice oA on oc] 49) := ⟨_, rfl⟩
      rw [← hw5]
      rw [← hY]
      have hO5 : Only (fun _ => False) ws w5 := by rw [hw5]; exact (Only.refl _ _).alloc _
      have hYb : w5.heap[Y]? = some (.cells #[.int .i64 tp, .int .i64 tth, .int .i64 tpe, .int .i64 tde, .int .i64 tfr, .int .i64 tfl, .slice oA on oc] 49 (0, 0)) := by rw [hw5]; exact heap_new_at _ _ hY.symm
      have y0 := wd_cell (row_cell (L := [.int .i64 tp, .int .i64 tth, .int .i64 tpe, .int .i64 tde, .int .i64 tfr, .int .i64 tfl, .slice oA on oc]) hYb (i := 0) rfl)
      have p8 := wd_cell (hO5.cell d8 (fun h => h))
      have g0 := wd_cell (hO5.cell e0 (fun h => h))
      have hex := wd_ex w5
      have hOw := Lib.hid (hO.out.trans' hO5)
      clear hY hw5 hYb hO5 f0 f1 f2 f3 f4 f5 f6 e0 d0 d1 d2 d3 d4 d5 d6 d7 d8 d9 dl
      by_cases hlt : tp < ow
      · have hsu2 := Lib.hid (hsu.out.trans (if_pos (decide_eq_true hlt)))
        refine wp_region_wd (by kernel_rfl) (by kernel_rfl) ?_
        repeat (go_big_quiet_step (fail))
        refine wpQuiet_nil ?_
        rintro _ ⟨v, rfl⟩
        have hO6 := Lib.hid (hOw.out.trans' v.ok)
        obtain ⟨w6, hw6⟩ : ∃ w6, w6 = v.W := ⟨_, rfl⟩
        rw [← hw6] at hO6 ⊢
        clear hw6 y0 p8 g0 hex
        obtain ⟨d0, d1, d2, d3, d4, d5, d6, d7, d8, d9, dl⟩ := hcy.out w6 hO6.out
        go_wp2_with fail
        refine (q1.out w6 hO6.out).mono ?_
        rintro e w7 ⟨rfl, ho⟩
        have hO7 := Lib.hid (hO6.out.trans' ho)
        clear ho hlt q1 d0 d1 d2 d3 d4 d5 d6 d7 d8 d9 dl
        by_cases hSF : S ≤ F
        · have h1 : (S : Int) ≤ F := by omega
          have hsu3 := Lib.hid (hsu2.out.trans (Nat.max_eq_right hSF))
          clear hSF
          by_cases h2 : (S : Int) < F
          · go_wp2
            go_roundw
            case rel => exact ⟨k + 1, by go_num, by omega, by rw [hsu3.out], hO7⟩
            case measure => simp [intOf]; omega
          · obtain rfl : S = F := by omega
            go_wp2
            go_roundw
            case rel => exact ⟨k + 1, by go_num, by omega, by rw [hsu3.out], hO7⟩
            case measure => simp [intOf]; omega
        · have h1 : ¬ (S : Int) < F := by omega
          have h2 : (F : Int) < S := by omega
          have hsu3 := Lib.hid (hsu2.out.trans (Nat.max_eq_left (by omega)))
          clear hSF
          go_wp2
          go_roundw
          case rel => exact ⟨k + 1, by go_num, by omega, by rw [hsu3.out], hO7⟩
          case measure => simp [intOf]; omega
      · have hsu2 := Lib.hid (hsu.out.trans (if_neg (by unfold lowB; simp; omega)))
        refine wp_region_wd (by kernel_rfl) (by kernel_rfl) ?_
        repeat (go_big_quiet_step (fail))
        refine wpQuiet_nil ?_
        rintro _ ⟨v, rfl⟩
        have hO6 := Lib.hid (hOw.out.trans' v.ok)
        go_wp2
        go_roundw
        case rel => exact ⟨k + 1, by go_num, by omega, by rw [hsu2.out], hO6⟩
        case measure => simp [intOf]; omega
    · obtain rfl : k = tn := by omega
      have hf2 := Lib.hid (show Z (.returned (U S)) ws from by rw [hS]; exact hfin.out ws hO.out)
      clear hS
      go_wp2
      exact hf2.out
end Pre
end Go.Proofs.YtlbinlhaejhobaaGreatDoor
