/- PreemptTells, walked. -/
import Derived.Test.YtdoimkmhincmmaaFix27
import Derived.Test.YtdoimkmhincmmaaPre7
import Derived.Test.YtdoimkmhincmmaaFew27
import Derived.Test.YtdoimkmhincmmaaOpn5
namespace Go.Proofs.Ytdoimkmhincmmaa
namespace Pre
open Go Go.RowKit Rca Sct Lin Lck Cst Rld
open Bch (U sA sC sA_le sC_le GrowU)

set_option maxRecDepth 100000 in
theorem count_none {w : World} {c : ConfV} {z : Int} {win : Nat} (hz : hasT c.ta.n z = false) : Calls Try.prog 8 #[c.val, .int .i64 z, U win] w (GrowU 0 w) := by
  obtain ⟨q, hq⟩ : ∃ q, q = w.heap.size := ⟨_, rfl⟩
  obtain ⟨W2, hW2⟩ : ∃ W2, W2 = (w.alloc (.cells c.cells.toArray 27)).alloc (.cells #[U win] 28) := ⟨_, rfl⟩
  have hO2 : Only (fun _ => False) w W2 := by rw [hW2]; exact ((Only.refl _ w).alloc _).alloc _
  have b0 : W2.heap[q]? = some (.cells c.cells.toArray 27 (0, 0)) := by rw [hW2]; exact heap_kept_alloc (heap_new_at _ _ hq.symm) _
  have hq' := Lib.hid hq
  have hmf : ∀ (fn : Fn) (first cap : Array Value) (w : World), (Instr.makeFunc fn first cap).run Try.prog w = .ok (.func fn first cap) w := fun _ _ _ _ => rfl
  have hcy := Lib.hid (fun W (ho : Only (fun _ => False) W2 W) => cyv_of (ho.heap b0 (fun h => h)))
  obtain ⟨cv, hcv⟩ : ∃ cv, cv = c.val := ⟨_, rfl⟩
  have cab := Lib.hid (show Calls Try.prog 26 #[cv, .int .i64 z] W2 (fun e w' => e = .returned (.slice none 0 0) ∧ Only (fun _ => False) W2 w') from by rw [hcv]; exact above_none hz)
  have ctot := Lib.hid (fun W => total_any (w := W) (A := none) (n := 0) (cap := 0) (hh := none) (L := []) (f := fun _ => 0) (qc := q) (qw := q + 1) (Win.nil _ _ _) rfl (by omega) (fun _ => by omega) (fun W' _ i hi => by simp at hi))
  rw [show totU (fun _ => 0) [] = 0 from rfl] at ctot
  obtain ⟨Z, hZ⟩ : ∃ Z, Z = GrowU 0 w := ⟨_, rfl⟩
  rw [← hZ]
  have hfin := Lib.hid (fun W (ho : Only (fun _ => False) W2 W) => show Z (.returned (U 0)) W from by rw [hZ]; exact ⟨rfl, hO2.trans' ho⟩)
  rw [← hcv]
  unfold ConfV.val at hcv
  subst hcv
  unfold CYv at hcy
  unfold ConfV.cells at hW2
  have hW2' := Lib.hid hW2
  clear hZ hq hO2 b0 hW2 hz
  obtain ⟨c0, wy, h, mi, ⟨mA, mn, mc⟩, g, ⟨cA, cn, cc⟩, ⟨eA, en, ec⟩, ⟨tA, tn, tc⟩, ⟨lA, ln, lc⟩⟩ := c
  dsimp only at *
  obtain ⟨d0, d1, d2, d3, d4, d5, d6, d7, d8, d9, dl⟩ := hcy.out W2 (Only.refl _ _)
  go_enter Try.func8, Try.ntmps8
  go_upto_region 1 with fail
  rw [← hq'.out]
  rw [← hW2'.out]
  go_wp2_with fail
  refine cab.out.mono ?_
  rintro e w4 ⟨rfl, ho⟩
  have q2 := Lib.hid (ctot.out w4)
  have hO4 := Lib.hid ho
  clear ho d0 d1 d2 d3 d4 d5 d6 d7 d8 d9 dl cab ctot
  go_wp2_with fail
  refine q2.out.mono ?_
  rintro e w5 ⟨rfl, ho⟩
  have hf := Lib.hid (hfin.out w5 (hO4.out.trans' ho))
  clear ho
  go_wp2
  exact hf.out
set_option maxRecDepth 100000 in
set_option maxHeartbeats 8000000 in
theorem tells27_any {w : World} {c : ConfV} {d : ConfL} {pl : Tks} (hC : ConfIn w c d pl) (hcn : c.ce.n ≤ 9223372036854775807) (hop : ∀ (i : Nat) t l, pl[i]? = some (t, l) → ∀ (j : Nat) o, l[j]? = some o → -9223372036854775808 ≤ o.a ∧ o.a ≤ 9223372036854775807) (z y : Int) {win : Nat} (hwin : win ≤ 18446744073709551615) :
    Calls Try.prog 3 #[c.val, .int .i64 z, .int .i64 y, U win] w (GrowB true w) := by
  obtain ⟨q, hq⟩ : ∃ q, q = w.heap.size := ⟨_, rfl⟩
  obtain ⟨W2, hW2⟩ : ∃ W2, W2 = w.alloc (.cells c.cells.toArray 27) := ⟨_, rfl⟩
  have hO2 : Only (fun _ => False) w W2 := by rw [hW2]; exact (Only.refl _ w).alloc _
  have b0 : W2.heap[q]? = some (.cells c.cells.toArray 27 (0, 0)) := by rw [hW2]; exact heap_new_at _ _ hq.symm
  have hq' := Lib.hid hq
  have hcy := Lib.hid (fun W (ho : Only (fun _ => False) W2 W) => cyv_of (ho.heap b0 (fun h => h)))
  obtain ⟨cv, hcv⟩ : ∃ cv, cv = c.val := ⟨_, rfl⟩
  have cfew := Lib.hid (fun W (ho : Only (fun _ => False) W2 W) => show Calls Try.prog 7 #[cv] W (FewEnd c d pl W) from by rw [hcv]; exact few27_any (hC.new (hO2.trans' ho)) hcn hop)
  have cblkn := Lib.hid (fun W (a b : Int) (hab : hasT c.ta.n a = false ∨ hasT c.ta.n b = false) => show Calls Try.prog 10 #[cv, .int .i64 a, .int .i64 b] W (GrowU 0 W) from by rw [hcv]; exact blocking_none hab)
  have hCi := Lib.hid (fun W (ho : Only (fun _ => False) W2 W) => hC.new (hO2.trans' ho))
  have hcv' := Lib.hid hcv
  obtain ⟨Z, hZ⟩ : ∃ Z, Z = GrowB true w := ⟨_, rfl⟩
  rw [← hZ]
  have hfin := Lib.hid (fun W (ho : Only (fun _ => False) W2 W) => show Z (.returned (.bool true)) W from by rw [hZ]; exact ⟨rfl, hO2.trans' ho⟩)
  have hpl := Lib.hid (ts_len hC)
  have hlen := Lib.hid hC.t.len
  obtain ⟨tn, htn⟩ : ∃ n, n = c.ta.n := ⟨_, rfl⟩
  have htn' := Lib.hid htn
  obtain ⟨HZ, hHZ⟩ : ∃ b, b = hasT tn z := ⟨_, rfl⟩
  obtain ⟨HY, hHY⟩ : ∃ b, b = hasT tn y := ⟨_, rfl⟩
  -- what the calls answer, of tasks that there are or not
  have ccnt := Lib.hid (fun (hz : HZ = false) W => show Calls Try.prog 8 #[cv, .int .i64 z, U win] W (GrowU 0 W) from by rw [hcv]; exact count_none (by rw [← htn, ← hHZ, hz]))
  have cdly := Lib.hid (fun (hz : HZ = false) W => show Calls Try.prog 9 #[cv, .int .i64 z] W (GrowU 0 W) from by rw [hcv]; exact delay_none (by rw [← htn, ← hHZ, hz]))
  have clow := Lib.hid (fun (hz : HZ = false) W => show Calls Try.prog 11 #[cv, .int .i64 z] W (fun e w' => e = .returned (.slice none 0 0) ∧ Only (fun _ => False) W w') from by rw [hcv]; exact lower_none (by rw [← htn, ← hHZ, hz]))
  have chig := Lib.hid (fun (hz : HZ = false) W => show Calls Try.prog 12 #[cv, .int .i64 z] W (fun e w' => e = .returned (.slice none 0 0) ∧ Only (fun _ => False) W w') from by rw [hcv]; exact higher_none (by rw [← htn, ← hHZ, hz]))
  have hall := Lib.hid (fun (hok : FewOk c d pl) (hz : HZ = true) => show ∃ (C D : Nat), (∀ W, Only (fun _ => False) W2 W → Calls Try.prog 8 #[cv, .int .i64 z, U win] W (GrowU C W) ∧ Calls Try.prog 13 #[cv, .int .i64 z, U win] W (GrowU C W) ∧ Calls Try.prog 9 #[cv, .int .i64 z] W (GrowU D W) ∧ Calls Try.prog 14 #[cv, .int .i64 z] W (GrowU D W)) ∧ (HY = true → ∃ B : Nat, ∀ W, Only (fun _ => False) W2 W → Calls Try.prog 10 #[cv, .int .i64 y, .int .i64 z] W (GrowU B W) ∧ Calls Try.prog 15 #[cv, .int .i64 y, .int .i64 z] W (GrowU B W)) from by
    rw [hHZ] at hz
    have hz2 := of_decide_eq_true hz
    obtain ⟨i, rfl⟩ : ∃ i : Nat, z = i := ⟨z.toNat, by omega⟩
    obtain ⟨ti, hti⟩ : ∃ t, pl.ts[i]? = some t := ⟨_, List.getElem?_eq_getElem (by have := hC.t.len; omega)⟩
    obtain ⟨s1, s2, s3, s4, s5⟩ := hC.small hok.fe
    have hl9 : ∀ (k : Nat) t l, pl[k]? = some (t, l) → l.length ≤ 1000 := fun k t l h => by
      have h1 := (hok.ta k t (ts_some h)).2.1
      have h2 := (hC.p k t l h).2.1
      omega
    have hfl : ∀ (k : Nat) t l, pl[k]? = some (t, l) → t.fl ≤ 1099511627776 := fun k t l h => (hok.ta k t (ts_some h)).2.2
    refine ⟨totU (cntU pl.ts win) (aboU pl.ts ti.th c.ta.n), dlyU (blkI c d pl ti.p) (thoseU lowB pl.ts ti.p c.ta.n), fun W ho => ?_, fun hy => ?_⟩
    · have hCW := hC.new (hO2.trans' ho)
      rw [hcv]
      exact ⟨count_any hCW.t (by omega) hwin hti, rcount_any hCW.t (by omega) hwin hti, delay_any hCW (by omega) (by omega) hl9 hti, rdelay_any hCW (by omega) (by omega) hl9 hfl hti⟩
    · rw [hHY] at hy
      have hy2 := of_decide_eq_true hy
      obtain ⟨j, rfl⟩ : ∃ j : Nat, y = j := ⟨y.toNat, by omega⟩
      obtain ⟨⟨t, l⟩, hpj⟩ : ∃ t, pl[j]? = some t := ⟨_, List.getElem?_eq_getElem (by rw [ts_len hC]; omega)⟩
      refine ⟨blkU (wrsZ l c.h c.mi).toNat (lonZ t.th (ceZ d.ce) c.ce.n l c.h c.mi ti.p).toNat t.th t.fl ti.p, fun W ho => ?_⟩
      have hCW := hC.new (hO2.trans' ho)
      rw [hcv]
      exact ⟨blocking_any hCW (by omega) hpj hti (hl9 j t l hpj) (by omega), rblocking_any hCW (by omega) hpj hti (hl9 j t l hpj) (by omega) (hfl j t l hpj)⟩)
  have hzz := Lib.hid (show (HZ = true ∧ 0 ≤ z ∧ z < tn) ∨ (HZ = false ∧ (z < 0 ∨ (tn : Int) ≤ z)) from by
    cases hh : HZ with
    | true => rw [hHZ] at hh; have := of_decide_eq_true hh; left; exact ⟨rfl, this⟩
    | false => rw [hHZ] at hh; have := of_decide_eq_false hh; right; exact ⟨rfl, by omega⟩)
  have hyy := Lib.hid (show (HY = true ∧ 0 ≤ y ∧ y < tn) ∨ (HY = false ∧ (y < 0 ∨ (tn : Int) ≤ y)) from by
    cases hh : HY with
    | true => rw [hHY] at hh; have := of_decide_eq_true hh; left; exact ⟨rfl, this⟩
    | false => rw [hHY] at hh; have := of_decide_eq_false hh; right; exact ⟨rfl, by omega⟩)
  rw [← htn] at cblkn
  have cblkz := Lib.hid (fun (hz : HZ = false) W => cblkn.out W 0 z (.inr (by rw [← hHZ, hz])))
  have cblky := Lib.hid (fun (hy : HY = false) W => cblkn.out W y z (.inl (by rw [← hHY, hy])))
  rw [← hcv]
  unfold ConfV.val at hcv
  subst hcv
  unfold CYv at hcy
  unfold ConfV.cells at hW2
  have hW2' := Lib.hid hW2
  clear hZ hq hO2 b0 hW2 hHZ hHY hC hop hcn cblkn htn hwin hcv'
  obtain ⟨c0, wy, h, mi, ⟨mA, mn, mc⟩, g, ⟨cA, cn, cc⟩, ⟨eA, en, ec⟩, ⟨tA, tn0, tc⟩, ⟨lA, ln, lc⟩⟩ := c
  dsimp only at *
  obtain ⟨d0, d1, d2, d3, d4, d5, d6, d7, d8, d9, dl⟩ := hcy.out W2 (Only.refl _ _)
  obtain rfl : tn = tn0 := htn'.out
  go_enter Try.func3, Try.ntmps3
  go_upto_region 1 with fail
  rw [← hq'.out]
  rw [← hW2'.out]
  clear d0 d1 d2 d3 d4 d5 d6 d7 d8 d9 dl
  go_wp2_with fail
  refine (fixed27_any W2).mono ?_
  rintro e w3 ⟨rfl, ho⟩
  have hO3 := Lib.hid ho
  clear ho
  obtain ⟨d0, d1, d2, d3, d4, d5, d6, d7, d8, d9, dl⟩ := hcy.out w3 hO3.out
  go_wp2_with fail
  refine (cfew.out w3 hO3.out).mono ?_
  rintro e w4 ⟨F, rfl, hok, ho⟩
  have hO4 := Lib.hid (hO3.out.trans' ho)
  have hok' := Lib.hid hok
  clear ho hok d0 d1 d2 d3 d4 d5 d6 d7 d8 d9 dl
  cases F with
  | false =>
    have hf := Lib.hid (hfin.out w4 hO4.out)
    go_wp2
    exact hf.out
  | true =>
    have hokk := Lib.hid (hok'.out rfl)
    rcases hzz.out with ⟨hz1, hz2, hz3⟩ | ⟨hz1, hz2⟩
    · obtain ⟨C, DD, hAB, hBK⟩ := hall.out hokk.out hz1
      have hAB' := Lib.hid hAB
      have hBK' := Lib.hid hBK
      clear hAB hBK
      obtain ⟨d0, d1, d2, d3, d4, d5, d6, d7, d8, d9, dl⟩ := hcy.out w4 hO4.out
      have p0 := wd_cell d0
      have p1 := wd_cell d1
      have p2 := wd_cell d2
      have p3 := wd_cell d3
      have p4 := wd_cell d4
      have p5 := wd_cell d5
      have p6 := wd_cell d6
      have p7 := wd_cell d7
      have p8 := wd_cell d8
      have p9 := wd_cell d9
      have q1 := Lib.hid (fun (x : Wd w4) => Calls.wd (x := x) (hAB'.out x.W (hO4.out.trans' x.ok)).1)
      have q2 := Lib.hid (fun (x : Wd w4) => Calls.wd (x := x) (hAB'.out x.W (hO4.out.trans' x.ok)).2.1)
      have q3 := Lib.hid (fun (x : Wd w4) => Calls.wd (x := x) (hAB'.out x.W (hO4.out.trans' x.ok)).2.2.1)
      have q4 := Lib.hid (fun (x : Wd w4) => Calls.wd (x := x) (hAB'.out x.W (hO4.out.trans' x.ok)).2.2.2)
      have hex := wd_ex w4
      have hnz : ¬ z < 0 := by omega
      have hnt : ¬ (tn : Int) ≤ z := by omega
      have hn1 : ((C : Int) != (C : Int)) = false := by simp
      have hn2 : ((DD : Int) != (DD : Int)) = false := by simp
      clear hz1
      go_wp2_with fail
      refine wp_region_wd (by kernel_rfl) (by kernel_rfl) ?_
      repeat (go_big_quiet_step (first | (go_at_call 8; with_reducible exact q1.out _) | (go_at_call 13; with_reducible exact q2.out _) | (go_at_call 9; with_reducible exact q3.out _) | (go_at_call 14; with_reducible exact q4.out _)))
      refine wpQuiet_nil ?_
      rintro _ ⟨v, rfl⟩
      have hO5 := Lib.hid (hO4.out.trans' v.ok)
      obtain ⟨w5, hw5⟩ : ∃ w5, w5 = v.W := ⟨_, rfl⟩
      rw [← hw5] at hO5 ⊢
      clear hw5 hex q1 q2 q3 q4 p0 p1 p2 p3 p4 p5 p6 p7 p8 p9 d0 d1 d2 d3 d4 d5 d6 d7 d8 d9 dl
      rcases hyy.out with ⟨hy1, hy2, hy3⟩ | ⟨hy1, hy2⟩
      · obtain ⟨B, hB⟩ := hBK'.out hy1
        have hB' := Lib.hid hB
        clear hB hy1
        obtain ⟨d0, d1, d2, d3, d4, d5, d6, d7, d8, d9, dl⟩ := hcy.out w5 hO5.out
        have p0 := wd_cell d0
        have p1 := wd_cell d1
        have p2 := wd_cell d2
        have p3 := wd_cell d3
        have p4 := wd_cell d4
        have p5 := wd_cell d5
        have p6 := wd_cell d6
        have p7 := wd_cell d7
        have p8 := wd_cell d8
        have p9 := wd_cell d9
        have q1 := Lib.hid (fun (x : Wd w5) => Calls.wd (x := x) (hB'.out x.W (hO5.out.trans' x.ok)).1)
        have q2 := Lib.hid (fun (x : Wd w5) => Calls.wd (x := x) (hB'.out x.W (hO5.out.trans' x.ok)).2)
        have hex := wd_ex w5
        have hny : ¬ y < 0 := by omega
        have hnu : ¬ (tn : Int) ≤ y := by omega
        go_wp2_with fail
        refine wp_region_wd (by kernel_rfl) (by kernel_rfl) ?_
        repeat (go_big_quiet_step (first | (go_at_call 10; with_reducible exact q1.out _) | (go_at_call 15; with_reducible exact q2.out _)))
        refine wpQuiet_nil ?_
        rintro _ ⟨v, rfl⟩
        have hf := Lib.hid (hfin.out v.W (hO5.out.trans' v.ok))
        go_wp2
        exact hf.out
      · have q1 := Lib.hid (cblky.out hy1)
        clear hy1
        rcases hy2 with hy2 | hy2
        · obtain ⟨d0, d1, d2, d3, d4, d5, d6, d7, d8, d9, dl⟩ := hcy.out w5 hO5.out
          go_wp2_with fail
          refine (q1.out w5).mono ?_
          rintro e w6 ⟨rfl, ho⟩
          have hf := Lib.hid (hfin.out w6 (hO5.out.trans' ho))
          clear ho d0 d1 d2 d3 d4 d5 d6 d7 d8 d9 dl
          go_wp2
          exact hf.out
        · have hny : ¬ y < 0 := by omega
          obtain ⟨d0, d1, d2, d3, d4, d5, d6, d7, d8, d9, dl⟩ := hcy.out w5 hO5.out
          go_wp2_with fail
          refine (q1.out w5).mono ?_
          rintro e w6 ⟨rfl, ho⟩
          have hf := Lib.hid (hfin.out w6 (hO5.out.trans' ho))
          clear ho d0 d1 d2 d3 d4 d5 d6 d7 d8 d9 dl
          go_wp2
          exact hf.out
    · have q1 := Lib.hid (fun (x : Wd w4) => Calls.wd (x := x) (ccnt.out hz1 x.W))
      have q2 := Lib.hid (fun (x : Wd w4) => Calls.wd (x := x) (cdly.out hz1 x.W))
      have q3 := Lib.hid (fun (x : Wd w4) => Calls.wd (x := x) (cblkz.out hz1 x.W))
      have q4 := Lib.hid (fun (x : Wd w4) => Calls.wd (x := x) (clow.out hz1 x.W))
      have q5 := Lib.hid (fun (x : Wd w4) => Calls.wd (x := x) (chig.out hz1 x.W))
      obtain ⟨d0, d1, d2, d3, d4, d5, d6, d7, d8, d9, dl⟩ := hcy.out w4 hO4.out
      have p0 := wd_cell d0
      have p1 := wd_cell d1
      have p2 := wd_cell d2
      have p3 := wd_cell d3
      have p4 := wd_cell d4
      have p5 := wd_cell d5
      have p6 := wd_cell d6
      have p7 := wd_cell d7
      have p8 := wd_cell d8
      have p9 := wd_cell d9
      have hex := wd_ex w4
      clear hz1
      rcases hz2 with hz2 | hz2
      · go_wp2_with fail
        refine wp_region_wd (by kernel_rfl) (by kernel_rfl) ?_
        repeat (go_big_quiet_step (first | (go_at_call 8; with_reducible exact q1.out _) | (go_at_call 9; with_reducible exact q2.out _) | (go_at_call 10; with_reducible exact q3.out _) | (go_at_call 11; with_reducible exact q4.out _) | (go_at_call 12; with_reducible exact q5.out _)))
        refine wpQuiet_nil ?_
        rintro _ ⟨v, rfl⟩
        have hf := Lib.hid (hfin.out v.W (hO4.out.trans' v.ok))
        go_wp2
        exact hf.out
      · have hnz : ¬ z < 0 := by omega
        go_wp2_with fail
        refine wp_region_wd (by kernel_rfl) (by kernel_rfl) ?_
        repeat (go_big_quiet_step (first | (go_at_call 8; with_reducible exact q1.out _) | (go_at_call 9; with_reducible exact q2.out _) | (go_at_call 10; with_reducible exact q3.out _) | (go_at_call 11; with_reducible exact q4.out _) | (go_at_call 12; with_reducible exact q5.out _)))
        refine wpQuiet_nil ?_
        rintro _ ⟨v, rfl⟩
        have hf := Lib.hid (hfin.out v.W (hO4.out.trans' v.ok))
        go_wp2
        exact hf.out
theorem tells27_law (c : ConfV) (z y win : Int) (W : World) (g0 : ∃ (dd : ConfL) (pl : Tks), ConfIn W c dd pl ∧ c.ce.n ≤ 9223372036854775807 ∧ ∀ (i : Nat) t l, pl[i]? = some (t, l) → ∀ (j : Nat) o, l[j]? = some o → (Lit.int .i64 o.a).wf = true) (_w1 : (Lit.int .i64 z).wf = true) (_w2 : (Lit.int .i64 y).wf = true) (w3 : (Lit.int .u64 win).wf = true) :
    Calls Try.prog 3 #[c.val, .int .i64 z, .int .i64 y, .int .u64 win] W fun e w' => e = .returned (.bool true) ∧ Below W.heap.size W w' := by
  obtain ⟨dd, pl, hC, hn, ho⟩ := g0
  obtain ⟨n, rfl, hn9⟩ : ∃ n : Nat, win = n ∧ n ≤ 18446744073709551615 := by
    simp [Lit.wf] at w3
    simp only [show IntKind.u64.min = 0 by decide, show IntKind.u64.max = 18446744073709551615 by decide] at w3
    exact ⟨win.toNat, by omega, by omega⟩
  exact (tells27_any hC hn (fun i t l hi j o hj => wf_i64 (ho i t l hi j o hj)) z y hn9).mono fun e w' ⟨he, hO⟩ => ⟨he, hO.below (Nat.le_refl _) (fun _ h => h.elim)⟩
end Pre
end Go.Proofs.Ytdoimkmhincmmaa
