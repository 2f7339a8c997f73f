/- PreemptSides, walked. -/
import Derived.Test.YtdoimkmhincmmaaFix27
import Derived.Test.YtdoimkmhincmmaaOpn5
namespace Go.Proofs.Ytdoimkmhincmmaa
namespace Pre
open Go Go.RowKit Rca Sct Lin Lck Cst Rld
open Bch (U sA sC sA_le sC_le GrowU)

theorem high_low (a b : Int) : highB a b = !lowB a b := by
  unfold highB lowB
  by_cases h : a < b
  · simp [h]
  · simp [h]; omega
theorem those_pre {g : Int → Int → Bool} {ts : List TaskV} {own : Int} {k n : Nat} (h : k < n) (hg : g (prio ts k) own = true) : (thoseU g ts own n)[(thoseU g ts own k).length]? = some k := by
  induction n with
  | zero => omega
  | succ n ih =>
    rw [thoseU_succ]
    by_cases hk : k = n
    · subst hk
      rw [if_pos hg]
      simp
    · have := ih (by omega)
      rw [List.getElem?_append_left (List.getElem?_eq_some_iff.1 this).1]
      exact this
set_option maxRecDepth 100000 in
set_option maxHeartbeats 8000000 in
theorem sides27_any {w : World} {c : ConfV} {d : ConfL} {pl : Tks} (hC : ConfIn w c d pl) (z : Int) :
    Calls Try.prog 4 #[c.val, .int .i64 z] w (GrowB true w) := by
  obtain ⟨q, hq⟩ : ∃ q, q = w.heap.size := ⟨_, rfl⟩
  obtain ⟨W2, hW2⟩ : ∃ W2, W2 = w.alloc (.cells c.cells.toArray 27) := ⟨_, rfl⟩
  have hO2 : Only (fun _ => False) w W2 := by rw [hW2]; exact (Only.refl _ w).alloc _
  have b0 : W2.heap[q]? = some (.cells c.cells.toArray 27 (0, 0)) := by rw [hW2]; exact heap_new_at _ _ hq.symm
  have hq' := Lib.hid hq
  have hcy := Lib.hid (fun W (ho : Only (fun _ => False) W2 W) => cyv_of (ho.heap b0 (fun h => h)))
  obtain ⟨cv, hcv⟩ : ∃ cv, cv = c.val := ⟨_, rfl⟩
  obtain ⟨F, hF⟩ : ∃ F, F = fewB c pl.ts := ⟨_, rfl⟩
  have cfew := Lib.hid (fun W (ho : Only (fun _ => False) W2 W) => show Calls Try.prog 16 #[cv] W (GrowB F W) from by rw [hcv, hF]; exact (hC.new (hO2.trans' ho)).few)
  obtain ⟨Z, hZ⟩ : ∃ Z, Z = GrowB true w := ⟨_, rfl⟩
  rw [← hZ]
  have hfin := Lib.hid (fun W (ho : Only (fun _ => False) W2 W) => show Z (.returned (.bool true)) W from by rw [hZ]; exact ⟨rfl, hO2.trans' ho⟩)
  have hlen := Lib.hid hC.t.len
  have hTW := Lib.hid (fun W (ho : Only (fun _ => False) W2 W) => (hC.new (hO2.trans' ho)).t)
  have hsm := Lib.hid (fun (h : F = true) => show c.ta.n ≤ 20 from (hC.small (hF ▸ h)).2.2.2.1)
  have hrows := Lib.hid (fun (h9 : c.ta.n ≤ 1000000) (i : Nat) ti (hi : pl.ts[i]? = some ti) W (ho : Only (fun _ => False) W2 W) => show Calls Try.prog 11 #[cv, .int .i64 (i : Int)] W (RowEnd W (thoseU lowB pl.ts ti.p c.ta.n)) ∧ Calls Try.prog 12 #[cv, .int .i64 (i : Int)] W (RowEnd W (thoseU highB pl.ts ti.p c.ta.n)) from by
    rw [hcv]
    have hT := (hC.new (hO2.trans' ho)).t
    exact ⟨lower_any hT h9 hi, higher_any hT h9 hi⟩)
  rw [← hcv]
  unfold ConfV.val at hcv
  subst hcv
  unfold CYv at hcy
  unfold ConfV.cells at hW2
  have hW2' := Lib.hid hW2
  clear hZ hq hO2 b0 hW2 hC hF
  obtain ⟨c0, wy, h, mi, ⟨mA, mn, mc⟩, g, ⟨cA, cn, cc⟩, ⟨eA, en, ec⟩, ⟨tA, tn, tc⟩, ⟨lA, ln, lc⟩⟩ := c
  dsimp only at *
  obtain ⟨d0, d1, d2, d3, d4, d5, d6, d7, d8, d9, dl⟩ := hcy.out W2 (Only.refl _ _)
  go_enter Try.func4, Try.ntmps4
  go_upto_region 1 with fail
  rw [← hq'.out]
  rw [← hW2'.out]
  clear d0 d1 d2 d3 d4 d5 d6 d7 d8 d9 dl
  go_wp2_with fail
  refine (fixed27_any W2).mono ?_
  rintro e w3 ⟨rfl, ho⟩
  have hO3 := Lib.hid ho
  clear ho
  obtain ⟨d0, d1, d2, d3, d4, d5, d6, d7, d8, d9, dl⟩ := hcy.out w3 hO3.out
  go_wp2_with fail
  refine (cfew.out w3 hO3.out).mono ?_
  rintro e w4 ⟨rfl, ho⟩
  have hO4 := Lib.hid (hO3.out.trans' ho)
  clear ho d0 d1 d2 d3 d4 d5 d6 d7 d8 d9 dl
  cases F with
  | false =>
    have hf := Lib.hid (hfin.out w4 hO4.out)
    go_wp2
    exact hf.out
  | true =>
    have hn20 := hsm.out rfl
    by_cases h0 : z < 0
    · have hf := Lib.hid (hfin.out w4 hO4.out)
      go_wp2
      exact hf.out
    obtain ⟨d0, d1, d2, d3, d4, d5, d6, d7, d8, d9, dl⟩ := hcy.out w4 hO4.out
    by_cases h1 : (tn : Int) ≤ z
    · have hf := Lib.hid (hfin.out w4 hO4.out)
      go_wp2
      exact hf.out
    obtain ⟨i, rfl⟩ : ∃ i : Nat, z = i := ⟨z.toNat, by omega⟩
    obtain ⟨ti, hti⟩ : ∃ t, pl.ts[i]? = some t := ⟨_, List.getElem?_eq_getElem (by have := hlen.out; omega)⟩
    have hr := Lib.hid (hrows.out (by omega) i ti hti)
    have htai := Lib.hid (fun W (ho : Only (fun _ => False) W2 W) => (hTW.out W ho).at_ i ti hti)
    have hit : (i : Int) < tn := by omega
    have hni : ¬ tn ≤ i := by omega
    have hn0 : ¬ (i : Int) < 0 := by omega
    clear hrows hti
    obtain ⟨A, hA⟩ : ∃ A, A = thoseU lowB pl.ts ti.p := ⟨_, rfl⟩
    obtain ⟨B, hB⟩ : ∃ B, B = thoseU highB pl.ts ti.p := ⟨_, rfl⟩
    have hsu := Lib.hid (fun k t (hk : pl.ts[k]? = some t) (hkn : k < tn) => show (A (k + 1)).length = (A k).length + (if t.p < ti.p then 1 else 0) ∧ (B (k + 1)).length = (B k).length + (if t.p < ti.p then 0 else 1) ∧ (t.p < ti.p → (A tn)[(A k).length]? = some k) ∧ (¬ t.p < ti.p → (B tn)[(B k).length]? = some k) from by
      rw [hA, hB, thoseU_succ, thoseU_succ, prio_at hk, high_low]
      by_cases h : t.p < ti.p
      · have hl : lowB t.p ti.p = true := decide_eq_true h
        rw [hl]
        simp only [h, if_true, not_true, Bool.not_true, List.length_append, List.length_singleton]
        refine ⟨trivial, by simp, fun _ => those_pre hkn (by rw [prio_at hk]; exact hl), fun hh => hh.elim⟩
      · have hl : lowB t.p ti.p = false := decide_eq_false h
        rw [hl]
        simp only [h, if_false, not_false_iff, Bool.not_false, if_true, List.length_append, List.length_singleton]
        refine ⟨by simp, trivial, fun hh => hh.elim, fun _ => those_pre hkn (by rw [prio_at hk, high_low, hl]; rfl)⟩)
    have hA0 := Lib.hid (show (A 0).length = 0 ∧ (B 0).length = 0 from by rw [hA, hB]; exact ⟨rfl, rfl⟩)
    have hAl := Lib.hid (fun k => show (A k).length ≤ k ∧ (B k).length ≤ k from by rw [hA, hB]; exact ⟨thoseU_len _ _ _ _, thoseU_len _ _ _ _⟩)
    rw [← hA, ← hB] at hr
    clear hA hB
    obtain ⟨al, hal⟩ : ∃ m, m = (A tn).length := ⟨_, rfl⟩
    obtain ⟨bl, hbl⟩ : ∃ m, m = (B tn).length := ⟨_, rfl⟩
    unfold RowEnd at hr
    rw [← hal, ← hbl] at hr
    have hal' := Lib.hid hal
    have hbl' := Lib.hid hbl
    clear hal hbl
    go_upto_region 5 with fail
    go_cut [5, 6] from 27 to 32 (fun u5 u6 wd => (∃ p cp hh, u5 = .slice p al cp ∧ Win wd 3 1 (.slice p al cp) hh al (dat (A tn))) ∧ (∃ p cp hh, u6 = .slice p bl cp ∧ Win wd 3 1 (.slice p bl cp) hh bl (dat (B tn))) ∧ Only (fun _ => False) W2 wd)
    case first =>
      go_region_held3 (fun W0 => W0.cell? ⟨q, 0, none⟩ = some (.int .i64 c0) ∧ W0.cell? ⟨q, 1, none⟩ = some (.int .i64 wy) ∧ W0.cell? ⟨q, 2, none⟩ = some (.int .i64 h) ∧ W0.cell? ⟨q, 3, none⟩ = some (.int .i64 mi) ∧ W0.cell? ⟨q, 4, none⟩ = some (.slice mA mn mc) ∧ W0.cell? ⟨q, 5, none⟩ = some (.int .i64 g) ∧ W0.cell? ⟨q, 6, none⟩ = some (.slice cA cn cc) ∧ W0.cell? ⟨q, 7, none⟩ = some (.slice eA en ec) ∧ W0.cell? ⟨q, 8, none⟩ = some (.slice tA tn tc) ∧ W0.cell? ⟨q, 9, none⟩ = some (.slice lA ln lc) ∧ q < W0.heap.size)
        (exact hcy.out _ (hO4.out.trans' (by repeat (first | assumption | exact Only.refl _ _ | apply Only.drew))))
        (first
          | (go_at_call 11; (with_reducible refine ((hr.out _ (hO4.out.trans' (by repeat (first | assumption | exact Only.refl _ _ | apply Only.drew)))).1).mono ?_); rintro _ w5 ⟨p5, c5, h5, rfl, hW5, -, ho5⟩; have hO5 : Only (fun _ => False) w4 w5 := Only.trans' (by repeat (first | assumption | exact Only.refl _ _ | apply Only.drew)) ho5; have hA5 := Lib.hid (fun W (h : Only (fun _ => False) w5 W) => hW5.kept h (fun _ _ h => h)); (first | (have hx5 := Only.trans' (a := w6) (by repeat (first | exact Only.refl _ _ | apply Only.drew)) ho5) | skip); clear hW5 ho5)
          | (go_at_call 12; (with_reducible refine ((hr.out _ (hO4.out.trans' (by repeat (first | assumption | exact Only.refl _ _ | apply Only.drew)))).2).mono ?_); rintro _ w6 ⟨p6, c6, h6, rfl, hW6, -, ho6⟩; have hO6 : Only (fun _ => False) w4 w6 := Only.trans' (by repeat (first | assumption | exact Only.refl _ _ | apply Only.drew)) ho6; have hB6 := Lib.hid (fun W (h : Only (fun _ => False) w6 W) => hW6.kept h (fun _ _ h => h)); (first | (have hx6 := Only.trans' (a := w5) (by repeat (first | exact Only.refl _ _ | apply Only.drew)) ho6) | skip); clear hW6 ho6))
      all_goals
        go_wp2
        go_meet
        case rel => exact ⟨⟨p5, c5, h5, rfl, hA5.out _ (by repeat (first | assumption | exact Only.refl _ _ | apply Only.drew))⟩, ⟨p6, c6, h6, rfl, hB6.out _ (by repeat (first | assumption | exact Only.refl _ _ | apply Only.drew))⟩, hO4.out.trans' (by repeat (first | assumption | exact Only.refl _ _ | apply Only.drew))⟩
    obtain ⟨⟨p5, c5, h5, rfl, hW5⟩, ⟨p6, c6, h6, rfl, hW6⟩, hOc⟩ := hcut
    obtain ⟨w7, hw7⟩ : ∃ w7 : World, w7 = wc := ⟨_, rfl⟩
    subst hw7
    have hA5 := Lib.hid (fun W (h : Only (fun _ => False) w7 W) => hW5.kept h (fun _ _ h => h))
    have hB6 := Lib.hid (fun W (h : Only (fun _ => False) w7 W) => hW6.kept h (fun _ _ h => h))
    have hO7 := Lib.hid hOc
    clear hW5 hW6 hOc hr d0 d1 d2 d3 d4 d5 d6 d7 d8 d9 dl
    obtain ⟨d0, d1, d2, d3, d4, d5, d6, d7, d8, d9, dl⟩ := hcy.out w7 hO7.out
    go_wp2
    clear d0 d1 d2 d3 d4 d5 d6 d7 d8 d9 dl
    go_loopw [7, 8, 9, 10, 36] (fun u7 u8 _ _ i wr => ∃ k : Nat, i = .int .i64 k ∧ k ≤ tn ∧ u7 = .int .i64 ((A k).length : Int) ∧ u8 = .int .i64 ((B k).length : Int) ∧ Hid (Only (fun _ => False) w7 wr)) (fun _ _ _ _ i _ => tn - (intOf i).toNat)
    case atStart => exact ⟨0, rfl, Nat.zero_le _, by rw [hA0.out.1]; rfl, by rw [hA0.out.2]; rfl, Lib.hid (Only.refl _ _)⟩
    case round =>
      obtain ⟨k, rfl, hk, rfl, rfl, hOr⟩ := hrel
      obtain ⟨ws, hws⟩ : ∃ ws : World, ws = wr := ⟨_, rfl⟩
      subst hws
      have hO := Lib.hid (hO7.out.trans' hOr.out)
      by_cases hkm : k < tn
      · have hkm' : (k : Int) < tn := by omega
        obtain ⟨t, ht⟩ : ∃ t, pl.ts[k]? = some t := ⟨_, List.getElem?_eq_getElem (by have := hlen.out; omega)⟩
        obtain ⟨tb, toff, hA, htb, f0, f1, f2, f3, f4, f5, f6⟩ := (hTW.out ws hO.out).at_ k t ht
        obtain ⟨tb2, toff2, hA', htb2, hCi⟩ := htai.out ws hO.out
        dsimp only at hA hA'
        subst hA
        cases hA'
        have e0 := hCi.c0
        have hs := Lib.hid (hsu.out k t ht hkm)
        have hbd := hAl.out k
        obtain ⟨tp, tth, tpe, tde, tfr, tfl, ⟨oA, on, oc⟩⟩ := t
        dsimp only at f0 f1 f2 f3 f4 f5 f6 hs
        obtain ⟨ow, how⟩ : ∃ ow, ow = ti.p := ⟨_, rfl⟩
        rw [← how] at e0 hs
        obtain ⟨a, ha⟩ : ∃ a, a = (A k).length := ⟨_, rfl⟩
        obtain ⟨b, hb⟩ : ∃ a, a = (B k).length := ⟨_, rfl⟩
        rw [← ha, ← hb] at hs hbd
        rw [← ha, ← hb]
        clear ht hCi how ha hb
        obtain ⟨d0, d1, d2, d3, d4, d5, d6, d7, d8, d9, dl⟩ := hcy.out ws hO.out
        go_wp2_with fail
        obtain ⟨Y, hY⟩ : ∃ Y, Y = ws.heap.size := ⟨_, rfl⟩
        obtain ⟨w5, hw5⟩ : ∃ w5, w5 = ws.alloc (.cells #[.int .i64 tp, .int .i64 tth, .int .i64 tpe, .int .i64 tde, .int .i64 tfr, .int .i64 tfl, .slice oA on oc] 38) := ⟨_, rfl⟩
        rw [← hw5]
        rw [← hY]
        have hO5 : Only (fun _ => False) ws w5 := by rw [hw5]; exact (Only.refl _ _).alloc _
        have hYb : w5.heap[Y]? = some (.cells #[.int .i64 tp, .int .i64 tth, .int .i64 tpe, .int .i64 tde, .int .i64 tfr, .int .i64 tfl, .slice oA on oc] 38 (0, 0)) := by rw [hw5]; exact heap_new_at _ _ hY.symm
        have y0 := wd_cell (row_cell (L := [.int .i64 tp, .int .i64 tth, .int .i64 tpe, .int .i64 tde, .int .i64 tfr, .int .i64 tfl, .slice oA on oc]) hYb (i := 0) rfl)
        have p8 := wd_cell (hO5.cell d8 (fun h => h))
        have g0 := wd_cell (hO5.cell e0 (fun h => h))
        have hex := wd_ex w5
        have hOw := Lib.hid (hOr.out.trans' hO5)
        clear hY hw5 hYb hO5 f0 f1 f2 f3 f4 f5 f6 e0 d0 d1 d2 d3 d4 d5 d6 d7 d8 d9 dl
        by_cases hlt : tp < ow
        · obtain ⟨s1, s2, s3, -⟩ := hs.out
          have s3' := s3 (by first | exact hlt | omega)
          rw [if_pos hlt] at s1 s2
          have hn1 := Lib.hid s1
          have hn2 := Lib.hid s2
          have hal2 : a < al := by have := (List.getElem?_eq_some_iff.1 s3').1; have := hal'.out; omega
          refine wp_region_wd (by kernel_rfl) (by kernel_rfl) ?_
          repeat (go_big_quiet_step (fail))
          refine wpQuiet_nil ?_
          rintro _ ⟨v, rfl⟩
          have hO6 := Lib.hid (hOw.out.trans' v.ok)
          obtain ⟨w6, hw6⟩ : ∃ w6, w6 = v.W := ⟨_, rfl⟩
          rw [← hw6] at hO6 ⊢
          obtain ⟨gg, off, rfl, cx, cxl⟩ := cell_at (hA5.out w6 hO6.out) (dat_at s3')
          have hge : ¬ (al : Int) ≤ a := by omega
          have hkk : ((k : Int) != (k : Int)) = false := by simp
          clear hw6 y0 p8 g0 hex s1 s2 s3 s3' hal2
          go_wp2
          go_roundw
          case rel => exact ⟨k + 1, by go_num, by omega, by rw [hn1.out]; push_cast; rfl, by rw [hn2.out]; rfl, hO6⟩
          case measure => simp [intOf]; omega
        · obtain ⟨s1, s2, -, s3⟩ := hs.out
          have s3' := s3 (by first | exact hlt | omega)
          rw [if_neg hlt] at s1 s2
          have hn1 := Lib.hid s1
          have hn2 := Lib.hid s2
          have hal2 : b < bl := by have := (List.getElem?_eq_some_iff.1 s3').1; have := hbl'.out; omega
          refine wp_region_wd (by kernel_rfl) (by kernel_rfl) ?_
          repeat (go_big_quiet_step (fail))
          refine wpQuiet_nil ?_
          rintro _ ⟨v, rfl⟩
          have hO6 := Lib.hid (hOw.out.trans' v.ok)
          obtain ⟨w6, hw6⟩ : ∃ w6, w6 = v.W := ⟨_, rfl⟩
          rw [← hw6] at hO6 ⊢
          obtain ⟨gg, off, rfl, cx, cxl⟩ := cell_at (hB6.out w6 hO6.out) (dat_at s3')
          have hge : ¬ (bl : Int) ≤ b := by omega
          have hkk : ((k : Int) != (k : Int)) = false := by simp
          clear hw6 y0 p8 g0 hex s1 s2 s3 s3' hal2
          go_wp2
          go_roundw
          case rel => exact ⟨k + 1, by go_num, by omega, by rw [hn1.out]; rfl, by rw [hn2.out]; push_cast; rfl, hO6⟩
          case measure => simp [intOf]; omega
      · obtain rfl : k = tn := by omega
        have hf := Lib.hid (hfin.out ws hO.out)
        rw [← hal'.out, ← hbl'.out]
        go_wp2
        exact hf.out
theorem sides27_law (c : ConfV) (z : Int) (W : World) (g0 : ∃ (dd : ConfL) (pl : Tks), ConfIn W c dd pl ∧ c.ce.n ≤ 9223372036854775807 ∧ ∀ (i : Nat) t l, pl[i]? = some (t, l) → ∀ (j : Nat) o, l[j]? = some o → (Lit.int .i64 o.a).wf = true) (_w1 : (Lit.int .i64 z).wf = true) :
    Calls Try.prog 4 #[c.val, .int .i64 z] W fun e w' => e = .returned (.bool true) ∧ Below W.heap.size W w' := by
  obtain ⟨dd, pl, hC, -⟩ := g0
  exact (sides27_any hC z).mono fun e w' ⟨he, hO⟩ => ⟨he, hO.below (Nat.le_refl _) (fun _ h => h.elim)⟩
end Pre
end Go.Proofs.Ytdoimkmhincmmaa
