/- preempt.Blocking. -/
import Derived.Test.YtdoimkmhincmmaaPre4
import Derived.Test.YtdoimkmhincmmaaWd
namespace Go.Proofs.Ytdoimkmhincmmaa
namespace Pre
open Go Go.RowKit Rca Sct Lin Lck Cst Rld
open Bch (U sA sC sA_le sC_le GrowU)

/-- How long a lower job keeps another one from going on: its program, or the regions that keep off the other's priority. -/
def blkU (wr ln : Nat) (th fl own : Int) : Nat := if own ≤ th then wr else min wr (kepU ln fl)
theorem blkU_le {wr ln : Nat} {th fl own : Int} (h : wr ≤ 18446744073709551615) : blkU wr ln th fl own ≤ 18446744073709551615 := by
  unfold blkU
  split <;> omega
def CYv (W : World) (q : Nat) (c : ConfV) : Prop :=
  W.cell? ⟨q, 0, none⟩ = some (.int .i64 c.s) ∧ W.cell? ⟨q, 1, none⟩ = some (.int .i64 c.wy) ∧ W.cell? ⟨q, 2, none⟩ = some (.int .i64 c.h) ∧ W.cell? ⟨q, 3, none⟩ = some (.int .i64 c.mi) ∧ W.cell? ⟨q, 4, none⟩ = some (.slice c.mb.A c.mb.n c.mb.cap) ∧ W.cell? ⟨q, 5, none⟩ = some (.int .i64 c.g) ∧
  W.cell? ⟨q, 6, none⟩ = some (.slice c.cn.A c.cn.n c.cn.cap) ∧ W.cell? ⟨q, 7, none⟩ = some (.slice c.ce.A c.ce.n c.ce.cap) ∧ W.cell? ⟨q, 8, none⟩ = some (.slice c.ta.A c.ta.n c.ta.cap) ∧ W.cell? ⟨q, 9, none⟩ = some (.slice c.li.A c.li.n c.li.cap) ∧ q < W.heap.size
theorem cyv_of {W : World} {q : Nat} {c : ConfV} (h : W.heap[q]? = some (.cells c.cells.toArray 27 (0, 0))) : CYv W q c :=
  ⟨row_cell h (i := 0) rfl, row_cell h (i := 1) rfl, row_cell h (i := 2) rfl, row_cell h (i := 3) rfl, row_cell h (i := 4) rfl, row_cell h (i := 5) rfl, row_cell h (i := 6) rfl, row_cell h (i := 7) rfl, row_cell h (i := 8) rfl, row_cell h (i := 9) rfl, row_lt h⟩
theorem hasT_in {n i : Nat} (h : i < n) : hasT n (i : Int) = true := by unfold hasT; simp; omega
theorem ts_len {w : World} {c : ConfV} {d : ConfL} {pl : Tks} (hC : ConfIn w c d pl) : pl.length = c.ta.n := by
  have h1 := hC.t.len
  unfold Tks.ts at h1
  rwa [List.length_map] at h1
set_option maxRecDepth 100000 in
set_option maxHeartbeats 4000000 in
theorem blocking_any {w : World} {c : ConfV} {d : ConfL} {pl : Tks} (hC : ConfIn w c d pl) (hen : c.ce.n ≤ 4096) {i j : Nat} {t tj : TaskV} {l : List Opn} (hi : pl[i]? = some (t, l)) (hj : pl.ts[j]? = some tj) (hl9 : l.length ≤ 1000) (htn : c.ta.n ≤ 1000000) :
    Calls Try.prog 10 #[c.val, .int .i64 (i : Int), .int .i64 (j : Int)] w (GrowU (blkU (wrsZ l c.h c.mi).toNat (lonZ t.th (ceZ d.ce) c.ce.n l c.h c.mi tj.p).toNat t.th t.fl tj.p) w) := by
  obtain ⟨q, hq⟩ : ∃ q, q = w.heap.size := ⟨_, rfl⟩
  obtain ⟨W2, hW2⟩ : ∃ W2, W2 = w.alloc (.cells c.cells.toArray 27) := ⟨_, rfl⟩
  have hO2 : Only (fun _ => False) w W2 := by rw [hW2]; exact (Only.refl _ w).alloc _
  have b0 : W2.heap[q]? = some (.cells c.cells.toArray 27 (0, 0)) := by rw [hW2]; exact heap_new_at _ _ hq.symm
  have hq' := Lib.hid hq
  have hpl := ts_len hC
  have hin : i < c.ta.n := by have := (List.getElem?_eq_some_iff.1 hi).1; omega
  have hjn : j < c.ta.n := by have := (List.getElem?_eq_some_iff.1 hj).1; unfold Tks.ts at this; rw [List.length_map] at this; omega
  obtain ⟨cv, hcv⟩ : ∃ cv, cv = c.val := ⟨_, rfl⟩
  have chas1 := Lib.hid (fun W => show Calls Try.prog 30 #[cv, .int .i64 (i : Int)] W (GrowB true W) from by rw [hcv, ← hasT_in hin]; exact phas_any W c (i : Int))
  have chas2 := Lib.hid (fun W => show Calls Try.prog 30 #[cv, .int .i64 (j : Int)] W (GrowB true W) from by rw [hcv, ← hasT_in hjn]; exact phas_any W c (j : Int))
  have hlt : l.length = t.o.n := (hC.p i t l hi).2.1
  have cworst := Lib.hid (fun W (ho : Only (fun _ => False) W2 W) => worst_any (cap := t.o.cap) ((hC.new (hO2.trans' ho)).p i t l hi).1 hlt (by omega) c.s c.wy c.h c.mi)
  obtain ⟨hz0, hz9⟩ := wrsZ_le (h := c.h) (mi := c.mi) hl9
  obtain ⟨z, hz⟩ : ∃ z, z = wrsZ l c.h c.mi := ⟨_, rfl⟩
  rw [← hz] at cworst hz0 hz9 ⊢
  have cof := Lib.hid (fun W => satOf_any z W)
  rw [ofU_small (by omega)] at cof
  obtain ⟨wr, hwr⟩ : ∃ s, s = z.toNat := ⟨_, rfl⟩
  have hwr9 : wr ≤ 18446744073709551615 := by omega
  rw [← hwr] at cof ⊢
  have ckept := Lib.hid (fun W (ho : Only (fun _ => False) W2 W) => show Calls Try.prog 32 #[cv, .int .i64 (i : Int), .int .i64 tj.p] W (GrowU (kepU (lonZ t.th (ceZ d.ce) c.ce.n l c.h c.mi tj.p).toNat t.fl) W) from by
    rw [hcv]; exact kept_any (hC.new (hO2.trans' ho)) hen hi hl9 htn tj.p)
  obtain ⟨kp, hkp⟩ : ∃ kp, kp = kepU (lonZ t.th (ceZ d.ce) c.ce.n l c.h c.mi tj.p).toNat t.fl := ⟨_, rfl⟩
  have hkp9 : kp ≤ 18446744073709551615 := by rw [hkp]; exact kepU_le (by have := lonZ_le t.th (ceZ d.ce) c.ce.n c.h c.mi tj.p hl9; omega)
  rw [← hkp] at ckept
  have hcy := Lib.hid (fun W (ho : Only (fun _ => False) W2 W) => cyv_of (ho.heap b0 (fun h => h)))
  have htai := Lib.hid (fun W (h : Only (fun _ => False) W2 W) => (hC.new (hO2.trans' h)).t.at_ i t (ts_some hi))
  have htaj := Lib.hid (fun W (h : Only (fun _ => False) W2 W) => (hC.new (hO2.trans' h)).t.at_ j tj hj)
  have hilt : (i : Int) < c.ta.n := by omega
  have hjlt : (j : Int) < c.ta.n := by omega
  obtain ⟨Z, hZ⟩ : ∃ Z, Z = GrowU (blkU wr (lonZ t.th (ceZ d.ce) c.ce.n l c.h c.mi tj.p).toNat t.th t.fl tj.p) w := ⟨_, rfl⟩
  rw [← hZ]
  have hZ0 := Lib.hid (fun (h : tj.p ≤ t.th) W (ho : Only (fun _ => False) W2 W) => show Z (.returned (U wr)) W from by rw [hZ, blkU, if_pos h]; exact ⟨rfl, hO2.trans' ho⟩)
  have hZ1 := Lib.hid (fun (h : ¬ tj.p ≤ t.th) (v : Nat) (hv : v = min wr kp) W (ho : Only (fun _ => False) W2 W) => show Z (.returned (U v)) W from by rw [hZ, blkU, if_neg h, ← hkp, ← hv]; exact ⟨rfl, hO2.trans' ho⟩)
  rw [← hcv]
  unfold ConfV.val at hcv
  subst hcv
  unfold CYv at hcy
  unfold ConfV.cells at hW2
  have hW2' := Lib.hid hW2
  clear hC hi hj hZ hq hO2 b0 hW2 hz hwr hkp hlt hin hjn hpl hl9
  obtain ⟨c0, wy, h, mi, ⟨mA, mn, mc⟩, g, ⟨cA, cn, cc⟩, ⟨eA, en, ec⟩, ⟨tA, tn, tc⟩, ⟨lA, ln, lc⟩⟩ := c
  dsimp only at *
  obtain ⟨d0, d1, d2, d3, d4, d5, d6, d7, d8, d9, dl⟩ := hcy.out W2 (Only.refl _ _)
  go_enter Try.func10, Try.ntmps10
  go_upto_region 1 with fail
  rw [← hq'.out]
  rw [← hW2'.out]
  go_wp2_with fail
  refine (chas1.out W2).mono ?_
  rintro e w3 ⟨rfl, ho⟩
  have hO3 := Lib.hid ho
  clear ho d0 d1 d2 d3 d4 d5 d6 d7 d8 d9 dl
  obtain ⟨d0, d1, d2, d3, d4, d5, d6, d7, d8, d9, dl⟩ := hcy.out w3 hO3.out
  go_wp2_with fail
  refine (chas2.out w3).mono ?_
  rintro e w4 ⟨rfl, ho⟩
  have hO4 := Lib.hid (hO3.out.trans' ho)
  clear ho d0 d1 d2 d3 d4 d5 d6 d7 d8 d9 dl
  obtain ⟨d0, d1, d2, d3, d4, d5, d6, d7, d8, d9, dl⟩ := hcy.out w4 hO4.out
  obtain ⟨b, off, hA, hb, hCe⟩ := htai.out w4 hO4.out
  have f6 := hCe.c6
  subst hA
  have p0 := wd_cell d0
  have p1 := wd_cell d1
  have p2 := wd_cell d2
  have p3 := wd_cell d3
  have p8 := wd_cell d8
  have g6 := wd_cell f6
  have q1 := Lib.hid (fun (x : Wd w4) => Calls.wd (x := x) (cworst.out x.W (hO4.out.trans' x.ok)))
  have q2 := Lib.hid (fun (x : Wd w4) => Calls.wd_same (x := x) ((cof.out x.W).mono fun _ _ h => ⟨h.1, h.2.symm⟩))
  have hex := wd_ex w4
  clear hCe
  go_wp2_with fail
  refine wp_region_wd (by kernel_rfl) (by kernel_rfl) ?_
  repeat (go_big_quiet_step (first | (go_at_call 31; with_reducible exact q1.out _) | (go_at_call 29; with_reducible exact q2.out _)))
  refine wpQuiet_nil ?_
  rintro _ ⟨v, rfl⟩
  have hO5 := Lib.hid (hO4.out.trans' v.ok)
  obtain ⟨w5, hw5⟩ : ∃ w5, w5 = v.W := ⟨_, rfl⟩
  rw [← hw5] at hO5 ⊢
  clear hw5 p0 p1 p2 p3 p8 g6 q1 q2 hex d0 d1 d2 d3 d4 d5 d6 d7 d8 d9 dl f6 hb
  obtain ⟨d0, d1, d2, d3, d4, d5, d6, d7, d8, d9, dl⟩ := hcy.out w5 hO5.out
  obtain ⟨b1, off1, hA, hb, hCe⟩ := htai.out w5 hO5.out
  cases hA
  obtain ⟨b2, off2, hA, hb2, hCj⟩ := htaj.out w5 hO5.out
  cases hA
  have f1 := hCe.c1
  have f0 := hCj.c0
  have p8 := wd_cell d8
  have g1 := wd_cell f1
  have g0 := wd_cell f0
  have hex := wd_ex w5
  obtain ⟨th, hth⟩ : ∃ th, th = t.th := ⟨_, rfl⟩
  obtain ⟨ow, how⟩ : ∃ ow, ow = tj.p := ⟨_, rfl⟩
  rw [← hth] at f1 g1 hZ0 hZ1
  rw [← how] at f0 g0 hZ0 hZ1 ckept
  have how' := Lib.hid how
  clear hCe hCj hth how
  by_cases hle : ow ≤ th
  · go_wp2_with fail
    refine wp_region_wd (by kernel_rfl) (by kernel_rfl) ?_
    repeat (go_big_quiet_step (fail))
    refine wpQuiet_nil ?_
    rintro _ ⟨v, rfl⟩
    have hf := Lib.hid (hZ0.out hle v.W (hO5.out.trans' v.ok))
    go_wp2
    exact hf.out
  · go_wp2_with fail
    refine wp_region_wd (by kernel_rfl) (by kernel_rfl) ?_
    repeat (go_big_quiet_step (fail))
    refine wpQuiet_nil ?_
    rintro _ ⟨v, rfl⟩
    have hf := Lib.hid (hZ1.out hle)
    have hO6 := Lib.hid (hO5.out.trans' v.ok)
    obtain ⟨w6, hw6⟩ : ∃ w6, w6 = v.W := ⟨_, rfl⟩
    rw [← hw6] at hO6 ⊢
    clear hw6 hex p8 g1 g0 f1 f0 d0 d1 d2 d3 d4 d5 d6 d7 d8 d9 dl hb hb2
    obtain ⟨d0, d1, d2, d3, d4, d5, d6, d7, d8, d9, dl⟩ := hcy.out w6 hO6.out
    obtain ⟨b2, off2, hA, hb2, hCj⟩ := htaj.out w6 hO6.out
    cases hA
    have f0 := hCj.c0
    rw [← how'.out] at f0
    have g0 := wd_cell f0
    clear hCj
    have p0 := wd_cell d0
    have p1 := wd_cell d1
    have p2 := wd_cell d2
    have p3 := wd_cell d3
    have p4 := wd_cell d4
    have p5 := wd_cell d5
    have p6 := wd_cell d6
    have p7 := wd_cell d7
    have p8 := wd_cell d8
    have p9 := wd_cell d9
    have q1 := Lib.hid (fun (x : Wd w6) => Calls.wd (x := x) (ckept.out x.W (hO6.out.trans' x.ok)))
    have hex := wd_ex w6
    by_cases hmm : wr ≤ kp
    · have hmi : (wr : Int) ≤ (kp : Int) := by omega
      have hf2 := Lib.hid (hf.out wr (by omega))
      go_wp2_with fail
      refine wp_region_wd (by kernel_rfl) (by kernel_rfl) ?_
      repeat (go_big_quiet_step (first | (go_at_call 32; with_reducible exact q1.out _)))
      refine wpQuiet_nil ?_
      rintro _ ⟨v, rfl⟩
      have hf3 := Lib.hid (hf2.out v.W (hO6.out.trans' v.ok))
      go_wp2
      exact hf3.out
    · have hmi : ¬ (wr : Int) ≤ (kp : Int) := by omega
      have hmi2 : (kp : Int) < (wr : Int) := by omega
      have hf2 := Lib.hid (hf.out kp (by omega))
      go_wp2_with fail
      refine wp_region_wd (by kernel_rfl) (by kernel_rfl) ?_
      repeat (go_big_quiet_step (first | (go_at_call 32; with_reducible exact q1.out _)))
      refine wpQuiet_nil ?_
      rintro _ ⟨v, rfl⟩
      have hf3 := Lib.hid (hf2.out v.W (hO6.out.trans' v.ok))
      go_wp2
      exact hf3.out
end Pre
end Go.Proofs.Ytdoimkmhincmmaa
