/- The reference's Same. -/
import Derived.Test.YtbjpnjgkpkfngaaGreatDoorGA
import Derived.BigRegion
import Derived.RegionTactic
namespace Go.Proofs.YtbjpnjgkpkfngaaGreatDoor
open Go Go.RowKit

set_option maxRecDepth 100000 in
set_option maxHeartbeats 4000000 in
theorem rsame_any {w : World} {c e : ConfV} {d d2 : ConfL} {pl ql : Tks} (hc : ConfAt w c d pl) (he : ConfAt w e d2 ql) : Calls Tryz.prog 16 #[c.val, e.val] w (GrowB (sameB c d pl e d2 ql) w) := by
  have hO := ((Only.refl (fun _ => False) w).alloc (.cells c.cells.toArray 27)).alloc (.cells e.cells.toArray 27)
  have hB := heap_kept_alloc (heap_new_at w (.cells c.cells.toArray 27) rfl) (.cells e.cells.toArray 27)
  have hB2 := heap_new_at (w.alloc (.cells c.cells.toArray 27)) (.cells e.cells.toArray 27) (X := w.heap.size + 1) (by simp)
  obtain ⟨W2, hW2⟩ : ∃ W2, W2 = (w.alloc (.cells c.cells.toArray 27)).alloc (.cells e.cells.toArray 27) := ⟨_, rfl⟩
  rw [← hW2] at hO hB hB2
  have e0 := row_cell hB (i := 0) rfl
  have f0 := row_cell hB2 (i := 0) rfl
  have e1 := row_cell hB (i := 1) rfl
  have f1 := row_cell hB2 (i := 1) rfl
  have e2 := row_cell hB (i := 2) rfl
  have f2 := row_cell hB2 (i := 2) rfl
  have e3 := row_cell hB (i := 3) rfl
  have f3 := row_cell hB2 (i := 3) rfl
  have e4 := row_cell hB (i := 4) rfl
  have f4 := row_cell hB2 (i := 4) rfl
  have e5 := row_cell hB (i := 5) rfl
  have f5 := row_cell hB2 (i := 5) rfl
  have e6 := row_cell hB (i := 6) rfl
  have f6 := row_cell hB2 (i := 6) rfl
  have e7 := row_cell hB (i := 7) rfl
  have f7 := row_cell hB2 (i := 7) rfl
  have e8 := row_cell hB (i := 8) rfl
  have f8 := row_cell hB2 (i := 8) rfl
  have e9 := row_cell hB (i := 9) rfl
  have f9 := row_cell hB2 (i := 9) rfl
  have hlt1 := row_lt hB
  have hlt2 := row_lt hB2
  have q1 := Lib.hid (fun (W : World) (hW : Only (fun _ => False) w W) => reqInts_any (hc.new hW).o.mb (he.new hW).o.mb hc.o.s.1)
  obtain ⟨b1, x1⟩ : ∃ b, b = decide (d.mb = d2.mb) := ⟨_, rfl⟩
  rw [← x1] at q1
  have q2 := Lib.hid (fun (W : World) (hW : Only (fun _ => False) w W) => reqInts_any (hc.new hW).o.cn (he.new hW).o.cn hc.o.s.2.1)
  obtain ⟨b2, x2⟩ : ∃ b, b = decide (d.cn = d2.cn) := ⟨_, rfl⟩
  rw [← x2] at q2
  have q3 := Lib.hid (fun (W : World) (hW : Only (fun _ => False) w W) => reqInts_any (hc.new hW).o.ce (he.new hW).o.ce hc.o.s.2.2.1)
  obtain ⟨b3, x3⟩ : ∃ b, b = decide (d.ce = d2.ce) := ⟨_, rfl⟩
  rw [← x3] at q3
  have q4 := Lib.hid (fun (W : World) (hW : Only (fun _ => False) w W) => reqInts_any (hc.new hW).o.li (he.new hW).o.li hc.o.s.2.2.2.1)
  obtain ⟨b4, x4⟩ : ∃ b, b = decide (d.li = d2.li) := ⟨_, rfl⟩
  rw [← x4] at q4
  obtain ⟨b5, x5⟩ : ∃ b, b = tasksEq pl ql := ⟨_, rfl⟩
  have hb5 := Lib.hid x5
  have hT' := Lib.hid hc.t
  have hU' := Lib.hid he.t
  have hp' := Lib.hid hc.p
  have hq' := Lib.hid he.p
  have hs5 := hc.o.s.2.2.2.2
  have hln' := Lib.hid (show pl.length = c.ta.n by have := hc.t.len; unfold Tks.ts at this; rwa [List.length_map] at this)
  have hmn' := Lib.hid (show ql.length = e.ta.n by have := he.t.len; unfold Tks.ts at this; rwa [List.length_map] at this)
  obtain ⟨V, hV⟩ : ∃ V, V = sameB c d pl e d2 ql := ⟨_, rfl⟩
  have hV' := Lib.hid (show V = (decide (headP c e) && (b1 && (b2 && (b3 && (b4 && b5))))) by rw [hV, x1, x2, x3, x4, x5]; unfold sameB; rw [Bool.and_comm (tasksEq pl ql) (decide (d.li = d2.li))])
  rw [← hV]
  have hcs := Lib.hid (show headP c e ∨ ¬ headP c e from Decidable.em _)
  have hne := Lib.hid (fun h => head_ne (c := c) (e := e) h)
  have hfy := Lib.hid (show headP c e → (c.s = e.s ∧ c.wy = e.wy ∧ c.h = e.h ∧ c.mi = e.mi ∧ c.g = e.g) from fun h => h)
  have hVy := Lib.hid (fun (h : headP c e) => show V = (b1 && (b2 && (b3 && (b4 && b5)))) by rw [hV'.out, decide_eq_true h]; rfl)
  have hVn := Lib.hid (fun (h : ¬ headP c e) => show V = false by rw [hV'.out, decide_eq_false h]; rfl)
  rw [show c.val = .agg #[.int .i64 c.s, .int .i64 c.wy, .int .i64 c.h, .int .i64 c.mi, .slice c.mb.A c.mb.n c.mb.cap, .int .i64 c.g, .slice c.cn.A c.cn.n c.cn.cap, .slice c.ce.A c.ce.n c.ce.cap, .slice c.ta.A c.ta.n c.ta.cap, .slice c.li.A c.li.n c.li.cap] from rfl, show e.val = .agg #[.int .i64 e.s, .int .i64 e.wy, .int .i64 e.h, .int .i64 e.mi, .slice e.mb.A e.mb.n e.mb.cap, .int .i64 e.g, .slice e.cn.A e.cn.n e.cn.cap, .slice e.ce.A e.ce.n e.ce.cap, .slice e.ta.A e.ta.n e.ta.cap, .slice e.li.A e.li.n e.li.cap] from rfl]
  unfold ConfV.cells at hW2
  clear hV' hc he hV hB hB2 x1 x2 x3 x4 x5
  generalize headP c e = HP at *
  obtain ⟨s, wy, h, mi, ⟨mA, mn, mc⟩, g, ⟨cA, cn, cc⟩, ⟨eA, en, ec⟩, ⟨tA, tn, tc⟩, ⟨lA, ln, lc⟩⟩ := c
  obtain ⟨s', wy', h', mi', ⟨mA', mn', mc'⟩, g', ⟨cA', cn', cc'⟩, ⟨eA', en', ec'⟩, ⟨tA', tn', tc'⟩, ⟨lA', ln', lc'⟩⟩ := e
  simp only at *
  have hO' := Lib.hid hO
  have hW2' := Lib.hid hW2
  clear hO hW2
  rcases hcs.out with hh | hh
  rotate_left
  · have hv := Lib.hid (hVn.out hh)
    have hn := hne.out hh
    clear hcs hne hVy hVn hfy hh
    rcases hn with hn | ⟨rfl, hn⟩ | ⟨rfl, rfl, hn⟩ | ⟨rfl, rfl, rfl, hn⟩ | ⟨rfl, rfl, rfl, rfl, hn⟩
    all_goals
      have hbf := beq_eq_false_iff_ne.2 hn
      go_enter Tryz.func16, Tryz.ntmps16
      go_wp2
      rw [← hW2'.out]
      go_ret
      exact retg_bool hv.out.symm hO'.out
  · have hv0 := Lib.hid (hVy.out hh)
    obtain ⟨rfl, rfl, rfl, rfl, rfl⟩ := hfy.out hh
    clear hcs hne hVy hVn hfy hh
    go_enter Tryz.func16, Tryz.ntmps16
    go_wp2_with fail
    rw [← hW2'.out]
    have hP0 := hO'
    refine (q1.out _ hP0.out).mono ?_
    rintro e w1 ⟨rfl, hQ1⟩
    replace e0 := hQ1.cell e0 (fun h => h)
    replace e1 := hQ1.cell e1 (fun h => h)
    replace e2 := hQ1.cell e2 (fun h => h)
    replace e3 := hQ1.cell e3 (fun h => h)
    replace e4 := hQ1.cell e4 (fun h => h)
    replace e5 := hQ1.cell e5 (fun h => h)
    replace e6 := hQ1.cell e6 (fun h => h)
    replace e7 := hQ1.cell e7 (fun h => h)
    replace e8 := hQ1.cell e8 (fun h => h)
    replace e9 := hQ1.cell e9 (fun h => h)
    replace f0 := hQ1.cell f0 (fun h => h)
    replace f1 := hQ1.cell f1 (fun h => h)
    replace f2 := hQ1.cell f2 (fun h => h)
    replace f3 := hQ1.cell f3 (fun h => h)
    replace f4 := hQ1.cell f4 (fun h => h)
    replace f5 := hQ1.cell f5 (fun h => h)
    replace f6 := hQ1.cell f6 (fun h => h)
    replace f7 := hQ1.cell f7 (fun h => h)
    replace f8 := hQ1.cell f8 (fun h => h)
    replace f9 := hQ1.cell f9 (fun h => h)
    replace hlt1 := Nat.lt_of_lt_of_le hlt1 hQ1.size
    replace hlt2 := Nat.lt_of_lt_of_le hlt2 hQ1.size
    have hP1 := Lib.hid (hP0.out.trans' hQ1)
    clear hQ1
    cases b1
    · have hv := Lib.hid (show V = false by rw [hv0.out]; simp)
      go_wp2
      go_ret
      exact retg_bool (by first | exact hv.out.symm | (rw [hv.out]; simp)) hP1.out
    · skip
      go_wp2_with fail
      refine (q2.out _ hP1.out).mono ?_
      rintro e w2 ⟨rfl, hQ2⟩
      replace e0 := hQ2.cell e0 (fun h => h)
      replace e1 := hQ2.cell e1 (fun h => h)
      replace e2 := hQ2.cell e2 (fun h => h)
      replace e3 := hQ2.cell e3 (fun h => h)
      replace e4 := hQ2.cell e4 (fun h => h)
      replace e5 := hQ2.cell e5 (fun h => h)
      replace e6 := hQ2.cell e6 (fun h => h)
      replace e7 := hQ2.cell e7 (fun h => h)
      replace e8 := hQ2.cell e8 (fun h => h)
      replace e9 := hQ2.cell e9 (fun h => h)
      replace f0 := hQ2.cell f0 (fun h => h)
      replace f1 := hQ2.cell f1 (fun h => h)
      replace f2 := hQ2.cell f2 (fun h => h)
      replace f3 := hQ2.cell f3 (fun h => h)
      replace f4 := hQ2.cell f4 (fun h => h)
      replace f5 := hQ2.cell f5 (fun h => h)
      replace f6 := hQ2.cell f6 (fun h => h)
      replace f7 := hQ2.cell f7 (fun h => h)
      replace f8 := hQ2.cell f8 (fun h => h)
      replace f9 := hQ2.cell f9 (fun h => h)
      replace hlt1 := Nat.lt_of_lt_of_le hlt1 hQ2.size
      replace hlt2 := Nat.lt_of_lt_of_le hlt2 hQ2.size
      have hP2 := Lib.hid (hP1.out.trans' hQ2)
      clear hQ2
      cases b2
      · have hv := Lib.hid (show V = false by rw [hv0.out]; simp)
        go_wp2
        go_ret
        exact retg_bool (by first | exact hv.out.symm | (rw [hv.out]; simp)) hP2.out
      · skip
        go_wp2_with fail
        refine (q3.out _ hP2.out).mono ?_
        rintro e w3 ⟨rfl, hQ3⟩
        replace e0 := hQ3.cell e0 (fun h => h)
        replace e1 := hQ3.cell e1 (fun h => h)
        replace e2 := hQ3.cell e2 (fun h => h)
        replace e3 := hQ3.cell e3 (fun h => h)
        replace e4 := hQ3.cell e4 (fun h => h)
        replace e5 := hQ3.cell e5 (fun h => h)
        replace e6 := hQ3.cell e6 (fun h => h)
        replace e7 := hQ3.cell e7 (fun h => h)
        replace e8 := hQ3.cell e8 (fun h => h)
        replace e9 := hQ3.cell e9 (fun h => h)
        replace f0 := hQ3.cell f0 (fun h => h)
        replace f1 := hQ3.cell f1 (fun h => h)
        replace f2 := hQ3.cell f2 (fun h => h)
        replace f3 := hQ3.cell f3 (fun h => h)
        replace f4 := hQ3.cell f4 (fun h => h)
        replace f5 := hQ3.cell f5 (fun h => h)
        replace f6 := hQ3.cell f6 (fun h => h)
        replace f7 := hQ3.cell f7 (fun h => h)
        replace f8 := hQ3.cell f8 (fun h => h)
        replace f9 := hQ3.cell f9 (fun h => h)
        replace hlt1 := Nat.lt_of_lt_of_le hlt1 hQ3.size
        replace hlt2 := Nat.lt_of_lt_of_le hlt2 hQ3.size
        have hP3 := Lib.hid (hP2.out.trans' hQ3)
        clear hQ3
        cases b3
        · have hv := Lib.hid (show V = false by rw [hv0.out]; simp)
          go_wp2
          go_ret
          exact retg_bool (by first | exact hv.out.symm | (rw [hv.out]; simp)) hP3.out
        · skip
          go_wp2_with fail
          refine (q4.out _ hP3.out).mono ?_
          rintro e w4 ⟨rfl, hQ4⟩
          replace e0 := hQ4.cell e0 (fun h => h)
          replace e1 := hQ4.cell e1 (fun h => h)
          replace e2 := hQ4.cell e2 (fun h => h)
          replace e3 := hQ4.cell e3 (fun h => h)
          replace e4 := hQ4.cell e4 (fun h => h)
          replace e5 := hQ4.cell e5 (fun h => h)
          replace e6 := hQ4.cell e6 (fun h => h)
          replace e7 := hQ4.cell e7 (fun h => h)
          replace e8 := hQ4.cell e8 (fun h => h)
          replace e9 := hQ4.cell e9 (fun h => h)
          replace f0 := hQ4.cell f0 (fun h => h)
          replace f1 := hQ4.cell f1 (fun h => h)
          replace f2 := hQ4.cell f2 (fun h => h)
          replace f3 := hQ4.cell f3 (fun h => h)
          replace f4 := hQ4.cell f4 (fun h => h)
          replace f5 := hQ4.cell f5 (fun h => h)
          replace f6 := hQ4.cell f6 (fun h => h)
          replace f7 := hQ4.cell f7 (fun h => h)
          replace f8 := hQ4.cell f8 (fun h => h)
          replace f9 := hQ4.cell f9 (fun h => h)
          replace hlt1 := Nat.lt_of_lt_of_le hlt1 hQ4.size
          replace hlt2 := Nat.lt_of_lt_of_le hlt2 hQ4.size
          have hP4 := Lib.hid (hP3.out.trans' hQ4)
          clear hQ4
          cases b4
          · have hv := Lib.hid (show V = false by rw [hv0.out]; simp)
            go_wp2
            go_ret
            exact retg_bool (by first | exact hv.out.symm | (rw [hv.out]; simp)) hP4.out
          · skip
            have hv5 := Lib.hid (show V = b5 by rw [hv0.out]; simp)
            clear hv0 q1 q2 q3 q4
            by_cases hn : tn = tn'
            rotate_left
            · have hnb : ((tn : Int) != (tn' : Int)) = true := by simp; omega
              have hv := Lib.hid (show V = false by rw [hv5.out, hb5.out]; exact tasksEq_len (by have := hln'.out; have := hmn'.out; omega))
              go_wp2
              go_ret
              exact retg_bool (by first | exact hv.out.symm | (rw [hv.out]; simp)) hP4.out
            · subst hn
              go_wp2
              go_loopw [65] (fun i wr => ∃ k : Nat, k ≤ tn ∧ i = .int .i64 k ∧ (∀ (j : Nat) x y, j < k → pl[j]? = some x → ql[j]? = some y → taskEq x y = true) ∧ Only (fun _ => False) w4 wr) (fun i _ => tn - (intOf i).toNat)
              case atStart => exact ⟨0, Nat.zero_le _, rfl, (fun j _ _ hj => by omega), Only.refl _ w4⟩
              case round =>
                obtain ⟨k, hk, rfl, hall, hOk⟩ := hrel
                obtain ⟨wo, hwo⟩ : ∃ wo, wo = wr := ⟨_, rfl⟩
                subst hwo
                replace e0 := hOk.cell e0 (fun h => h)
                replace e1 := hOk.cell e1 (fun h => h)
                replace e2 := hOk.cell e2 (fun h => h)
                replace e3 := hOk.cell e3 (fun h => h)
                replace e4 := hOk.cell e4 (fun h => h)
                replace e5 := hOk.cell e5 (fun h => h)
                replace e6 := hOk.cell e6 (fun h => h)
                replace e7 := hOk.cell e7 (fun h => h)
                replace e8 := hOk.cell e8 (fun h => h)
                replace e9 := hOk.cell e9 (fun h => h)
                replace f0 := hOk.cell f0 (fun h => h)
                replace f1 := hOk.cell f1 (fun h => h)
                replace f2 := hOk.cell f2 (fun h => h)
                replace f3 := hOk.cell f3 (fun h => h)
                replace f4 := hOk.cell f4 (fun h => h)
                replace f5 := hOk.cell f5 (fun h => h)
                replace f6 := hOk.cell f6 (fun h => h)
                replace f7 := hOk.cell f7 (fun h => h)
                replace f8 := hOk.cell f8 (fun h => h)
                replace f9 := hOk.cell f9 (fun h => h)
                replace hlt1 := Nat.lt_of_lt_of_le hlt1 hOk.size
                replace hlt2 := Nat.lt_of_lt_of_le hlt2 hOk.size
                have hPk := Lib.hid (hP4.out.trans' hOk)
                have hOk' := Lib.hid hOk
                have hall' := Lib.hid hall
                clear hall hOk
                by_cases hkn : k < tn
                · have hkn' : (k : Int) < (tn : Int) := by omega
                  obtain ⟨⟨t, l⟩, hz⟩ : ∃ z, pl[k]? = some z := ⟨_, List.getElem?_eq_getElem (by have := hln'.out; omega)⟩
                  obtain ⟨⟨u, m⟩, hu⟩ : ∃ z, ql[k]? = some z := ⟨_, List.getElem?_eq_getElem (by have := hmn'.out; omega)⟩
                  obtain ⟨b, off, hA, hb, hC⟩ := hT'.out.at_ k t (ts_some hz)
                  obtain ⟨b2', off2, hA2, hb2, hD⟩ := hU'.out.at_ k u (ts_some hu)
                  simp only at hA hA2
                  subst hA
                  subst hA2
                  obtain ⟨c0, c1, c2, c3, c4, c5, c6⟩ := hC.new hPk.out
                  obtain ⟨d0, d1, d2', d3, d4, d5, d6⟩ := hD.new hPk.out
                  have hbb := Nat.lt_of_lt_of_le hb hPk.out.size
                  have hbb2 := Nat.lt_of_lt_of_le hb2 hPk.out.size
                  have hz' := Lib.hid hz
                  have hu' := Lib.hid hu
                  clear hz hu hC hD hb hb2
                  obtain ⟨P, th, pe, de, fr, fl, ⟨oA, on, oc⟩⟩ := t
                  obtain ⟨P2, th2, pe2, de2, fr2, fl2, ⟨oA2, on2, oc2⟩⟩ := u
                  simp only at *
                  go_wp2
                  go_region
                  · skip
                    have hlm := Lib.hid (And.intro (hp'.out.row k _ l hz'.out) (hq'.out.row k _ m hu'.out))
                    by_cases hf : figP ⟨P, th, pe, de, fr, fl, ⟨oA, on, oc⟩⟩ ⟨P2, th2, pe2, de2, fr2, fl2, ⟨oA2, on2, oc2⟩⟩
                    rotate_left
                    · have hv := Lib.hid (show V = false by rw [hv5.out, hb5.out]; exact tasksEq_bad hz'.out hu'.out (by unfold taskEq; rw [decide_eq_false hf]; rfl))
                      have hn := fig_ne hf
                      simp only at hn
                      clear hf
                      rcases hn with hn | ⟨rfl, hn⟩ | ⟨rfl, rfl, hn⟩ | ⟨rfl, rfl, rfl, hn⟩ | ⟨rfl, rfl, rfl, rfl, hn⟩ | ⟨rfl, rfl, rfl, rfl, rfl, hn⟩
                      all_goals
                        have hbf := beq_eq_false_iff_ne.2 hn
                        go_wp2
                        go_ret
                        exact retg_bool (by first | exact hv.out.symm | (rw [hv.out]; simp)) (hPk.out.trans' (by repeat (first | exact Only.refl _ _ | refine Only.drew ?_ | refine Only.alloc ?_ _)))
                    · have hf' := hf
                      unfold figP at hf'
                      simp only at hf'
                      obtain ⟨rfl, rfl, rfl, rfl, rfl, rfl⟩ := hf'
                      by_cases hl : on = on2
                      rotate_left
                      · have hv := Lib.hid (show V = false by
                          rw [hv5.out, hb5.out]
                          refine tasksEq_bad hz'.out hu'.out ?_
                          unfold taskEq
                          rw [Bool.and_eq_false_iff]
                          exact .inr (decide_eq_false (fun e => hl (by have h1 := hlm.out.1.2.1; have h2 := hlm.out.2.2.1; (try simp only at h1 h2 e); rw [← h1, ← h2, e]))))
                        have hnb : ((on : Int) != (on2 : Int)) = true := by simp; omega
                        clear hf
                        go_wp2
                        go_ret
                        exact retg_bool (by first | exact hv.out.symm | (rw [hv.out]; simp)) (hPk.out.trans' (by repeat (first | exact Only.refl _ _ | refine Only.drew ?_ | refine Only.alloc ?_ _)))
                      · subst hl
                        have hf2 := Lib.hid hf
                        have hon : on ≤ 1000000 := hlm.out.1.2.2.1
                        clear hf
                        go_wp2
                        go_loopw [130] (fun i wq => ∃ j : Nat, j ≤ on ∧ i = .int .i64 j ∧ (∀ i : Nat, i < j → l[i]? = m[i]?) ∧ Only (fun _ => False) wo wq ∧ wq.cell? ⟨wo.heap.size, 6, none⟩ = some (.slice oA on oc) ∧ wq.cell? ⟨wo.heap.size + 1, 6, none⟩ = some (.slice oA2 on oc2) ∧ wo.heap.size + 1 < wq.heap.size) (fun i _ => on - (intOf i).toNat)
                        case atStart => exact ⟨0, Nat.zero_le _, rfl, (fun j hj => by omega), (by repeat (first | exact Only.refl _ _ | refine Only.drew ?_ | refine Only.alloc ?_ _)), row_cell (heap_kept_alloc (heap_new_at wo _ rfl) _) (i := 6) rfl, row_cell (heap_new_at (wo.alloc _) _ (by simp)) (i := 6) rfl, by simp⟩
                        case round =>
                          obtain ⟨j, hj, rfl, hall2, hOq, s6, s7, hbl⟩ := hrel
                          have hOq' := Lib.hid hOq
                          have hQ := Lib.hid (hPk.out.trans' hOq)
                          have hall3 := Lib.hid hall2
                          have hbl0 : wo.heap.size < wr.heap.size := by omega
                          clear hOq hall2
                          by_cases hjn : j < on
                          · have hjn' : (j : Int) < (on : Int) := by omega
                            obtain ⟨o, ho⟩ : ∃ z, l[j]? = some z := ⟨_, List.getElem?_eq_getElem (by have h1 := hlm.out.1.2.1; (try simp only at h1); omega)⟩
                            obtain ⟨o', ho'⟩ : ∃ z, m[j]? = some z := ⟨_, List.getElem?_eq_getElem (by have h1 := hlm.out.2.2.1; (try simp only at h1); omega)⟩
                            obtain ⟨bo, oo, hA3, hb3, hC3⟩ := hlm.out.1.1 j o ho
                            obtain ⟨bo2, oo2, hA4, hb4, hD3⟩ := hlm.out.2.1 j o' ho'
                            try simp only at hA3 hA4
                            subst hA3
                            subst hA4
                            have g0 := hQ.out.cell hC3.1 (fun h => h)
                            have g1 := hQ.out.cell hC3.2.1 (fun h => h)
                            have g2 := hQ.out.cell hC3.2.2 (fun h => h)
                            have k0 := hQ.out.cell hD3.1 (fun h => h)
                            have k1 := hQ.out.cell hD3.2.1 (fun h => h)
                            have k2 := hQ.out.cell hD3.2.2 (fun h => h)
                            clear hC3 hD3
                            by_cases hoo : o = o'
                            · subst hoo
                              have hnx := Lib.hid (show ∀ i : Nat, i < j + 1 → l[i]? = m[i]? from fun i hi => by
                                by_cases hij : i < j
                                · exact hall3.out i hij
                                · obtain rfl : i = j := by omega
                                  rw [ho, ho'])
                              clear ho ho'
                              obtain ⟨ok, oa, ob⟩ := o
                              simp only at *
                              go_wp2
                              go_quiet (fail)
                              go_wp2
                              go_roundw
                              case rel => exact ⟨j + 1, by omega, by go_num, hnx.out, hOq'.out.drewN _, s6, s7, hbl⟩
                              case measure => simp [intOf]; omega
                            · have hv := Lib.hid (show V = false by
                                rw [hv5.out, hb5.out]
                                refine tasksEq_bad hz'.out hu'.out ?_
                                unfold taskEq
                                rw [Bool.and_eq_false_iff]
                                exact .inr (decide_eq_false (fun e => by simp only at e; rw [e, ho'] at ho; cases ho; exact hoo rfl)))
                              clear ho ho'
                              obtain ⟨ok, oa, ob⟩ := o
                              obtain ⟨uk, ua, ub⟩ := o'
                              simp only at *
                              rcases opn_ne hoo with h | ⟨rfl, h⟩ | ⟨rfl, rfl, h⟩
                              all_goals
                                clear hoo
                                go_wp2
                                go_quiet (fail)
                                go_wp2
                                go_ret
                                exact retg_bool hv.out.symm (hQ.out.drewN _)
                          · obtain rfl : j = on := by omega
                            have hlmE := Lib.hid (show l = m from same_lists (by have h1 := hlm.out.1.2.1; have h2 := hlm.out.2.2.1; (try simp only at h1 h2); omega) (fun i hi => hall3.out i (by have h1 := hlm.out.1.2.1; (try simp only at h1); omega)))
                            have hnw := Lib.hid (show ∀ (i : Nat) x y, i < k + 1 → pl[i]? = some x → ql[i]? = some y → taskEq x y = true from fun i x y hi hx hy => by
                              by_cases hik : i < k
                              · exact hall'.out i x y hik hx hy
                              · obtain rfl : i = k := by omega
                                have hx' := hz'.out
                                have hy' := hu'.out
                                rw [hx'] at hx
                                rw [hy'] at hy
                                cases hx
                                cases hy
                                unfold taskEq
                                rw [decide_eq_true hf2.out, decide_eq_true hlmE.out]
                                rfl)
                            go_wp2
                            go_roundw
                            case rel => exact ⟨k + 1, by omega, by go_num, hnw.out, hOk'.out.trans' hOq'.out⟩
                            case measure => simp [intOf]; omega
                  · skip
                    have hlm := Lib.hid (And.intro (hp'.out.row k _ l hz'.out) (hq'.out.row k _ m hu'.out))
                    by_cases hf : figP ⟨P, th, pe, de, fr, fl, ⟨oA, on, oc⟩⟩ ⟨P2, th2, pe2, de2, fr2, fl2, ⟨oA2, on2, oc2⟩⟩
                    rotate_left
                    · have hv := Lib.hid (show V = false by rw [hv5.out, hb5.out]; exact tasksEq_bad hz'.out hu'.out (by unfold taskEq; rw [decide_eq_false hf]; rfl))
                      have hn := fig_ne hf
                      simp only at hn
                      clear hf
                      rcases hn with hn | ⟨rfl, hn⟩ | ⟨rfl, rfl, hn⟩ | ⟨rfl, rfl, rfl, hn⟩ | ⟨rfl, rfl, rfl, rfl, hn⟩ | ⟨rfl, rfl, rfl, rfl, rfl, hn⟩
                      all_goals
                        have hbf := beq_eq_false_iff_ne.2 hn
                        go_wp2
                        go_ret
                        exact retg_bool (by first | exact hv.out.symm | (rw [hv.out]; simp)) (hPk.out.trans' (by repeat (first | exact Only.refl _ _ | refine Only.drew ?_ | refine Only.alloc ?_ _)))
                    · have hf' := hf
                      unfold figP at hf'
                      simp only at hf'
                      obtain ⟨rfl, rfl, rfl, rfl, rfl, rfl⟩ := hf'
                      by_cases hl : on = on2
                      rotate_left
                      · have hv := Lib.hid (show V = false by
                          rw [hv5.out, hb5.out]
                          refine tasksEq_bad hz'.out hu'.out ?_
                          unfold taskEq
                          rw [Bool.and_eq_false_iff]
                          exact .inr (decide_eq_false (fun e => hl (by have h1 := hlm.out.1.2.1; have h2 := hlm.out.2.2.1; (try simp only at h1 h2 e); rw [← h1, ← h2, e]))))
                        have hnb : ((on : Int) != (on2 : Int)) = true := by simp; omega
                        clear hf
                        go_wp2
                        go_ret
                        exact retg_bool (by first | exact hv.out.symm | (rw [hv.out]; simp)) (hPk.out.trans' (by repeat (first | exact Only.refl _ _ | refine Only.drew ?_ | refine Only.alloc ?_ _)))
                      · subst hl
                        have hf2 := Lib.hid hf
                        have hon : on ≤ 1000000 := hlm.out.1.2.2.1
                        clear hf
                        go_wp2
                        go_loopw [130] (fun i wq => ∃ j : Nat, j ≤ on ∧ i = .int .i64 j ∧ (∀ i : Nat, i < j → l[i]? = m[i]?) ∧ Only (fun _ => False) wo wq ∧ wq.cell? ⟨wo.heap.size + 1, 6, none⟩ = some (.slice oA on oc) ∧ wq.cell? ⟨wo.heap.size, 6, none⟩ = some (.slice oA2 on oc2) ∧ wo.heap.size + 1 < wq.heap.size) (fun i _ => on - (intOf i).toNat)
                        case atStart => exact ⟨0, Nat.zero_le _, rfl, (fun j hj => by omega), (by repeat (first | exact Only.refl _ _ | refine Only.drew ?_ | refine Only.alloc ?_ _)), row_cell (heap_new_at (wo.alloc _) _ (by simp)) (i := 6) rfl, row_cell (heap_kept_alloc (heap_new_at wo _ rfl) _) (i := 6) rfl, by simp⟩
                        case round =>
                          obtain ⟨j, hj, rfl, hall2, hOq, s6, s7, hbl⟩ := hrel
                          have hOq' := Lib.hid hOq
                          have hQ := Lib.hid (hPk.out.trans' hOq)
                          have hall3 := Lib.hid hall2
                          have hbl0 : wo.heap.size < wr.heap.size := by omega
                          clear hOq hall2
                          by_cases hjn : j < on
                          · have hjn' : (j : Int) < (on : Int) := by omega
                            obtain ⟨o, ho⟩ : ∃ z, l[j]? = some z := ⟨_, List.getElem?_eq_getElem (by have h1 := hlm.out.1.2.1; (try simp only at h1); omega)⟩
                            obtain ⟨o', ho'⟩ : ∃ z, m[j]? = some z := ⟨_, List.getElem?_eq_getElem (by have h1 := hlm.out.2.2.1; (try simp only at h1); omega)⟩
                            obtain ⟨bo, oo, hA3, hb3, hC3⟩ := hlm.out.1.1 j o ho
                            obtain ⟨bo2, oo2, hA4, hb4, hD3⟩ := hlm.out.2.1 j o' ho'
                            try simp only at hA3 hA4
                            subst hA3
                            subst hA4
                            have g0 := hQ.out.cell hC3.1 (fun h => h)
                            have g1 := hQ.out.cell hC3.2.1 (fun h => h)
                            have g2 := hQ.out.cell hC3.2.2 (fun h => h)
                            have k0 := hQ.out.cell hD3.1 (fun h => h)
                            have k1 := hQ.out.cell hD3.2.1 (fun h => h)
                            have k2 := hQ.out.cell hD3.2.2 (fun h => h)
                            clear hC3 hD3
                            by_cases hoo : o = o'
                            · subst hoo
                              have hnx := Lib.hid (show ∀ i : Nat, i < j + 1 → l[i]? = m[i]? from fun i hi => by
                                by_cases hij : i < j
                                · exact hall3.out i hij
                                · obtain rfl : i = j := by omega
                                  rw [ho, ho'])
                              clear ho ho'
                              obtain ⟨ok, oa, ob⟩ := o
                              simp only at *
                              go_wp2
                              go_quiet (fail)
                              go_wp2
                              go_roundw
                              case rel => exact ⟨j + 1, by omega, by go_num, hnx.out, hOq'.out.drewN _, s6, s7, hbl⟩
                              case measure => simp [intOf]; omega
                            · have hv := Lib.hid (show V = false by
                                rw [hv5.out, hb5.out]
                                refine tasksEq_bad hz'.out hu'.out ?_
                                unfold taskEq
                                rw [Bool.and_eq_false_iff]
                                exact .inr (decide_eq_false (fun e => by simp only at e; rw [e, ho'] at ho; cases ho; exact hoo rfl)))
                              clear ho ho'
                              obtain ⟨ok, oa, ob⟩ := o
                              obtain ⟨uk, ua, ub⟩ := o'
                              simp only at *
                              rcases opn_ne hoo with h | ⟨rfl, h⟩ | ⟨rfl, rfl, h⟩
                              all_goals
                                clear hoo
                                go_wp2
                                go_quiet (fail)
                                go_wp2
                                go_ret
                                exact retg_bool hv.out.symm (hQ.out.drewN _)
                          · obtain rfl : j = on := by omega
                            have hlmE := Lib.hid (show l = m from same_lists (by have h1 := hlm.out.1.2.1; have h2 := hlm.out.2.2.1; (try simp only at h1 h2); omega) (fun i hi => hall3.out i (by have h1 := hlm.out.1.2.1; (try simp only at h1); omega)))
                            have hnw := Lib.hid (show ∀ (i : Nat) x y, i < k + 1 → pl[i]? = some x → ql[i]? = some y → taskEq x y = true from fun i x y hi hx hy => by
                              by_cases hik : i < k
                              · exact hall'.out i x y hik hx hy
                              · obtain rfl : i = k := by omega
                                have hx' := hz'.out
                                have hy' := hu'.out
                                rw [hx'] at hx
                                rw [hy'] at hy
                                cases hx
                                cases hy
                                unfold taskEq
                                rw [decide_eq_true hf2.out, decide_eq_true hlmE.out]
                                rfl)
                            go_wp2
                            go_roundw
                            case rel => exact ⟨k + 1, by omega, by go_num, hnw.out, hOk'.out.trans' hOq'.out⟩
                            case measure => simp [intOf]; omega
                · obtain rfl : k = tn := by omega
                  have hvt := Lib.hid (show V = true by rw [hv5.out, hb5.out]; exact tasksEq_all (by have := hln'.out; have := hmn'.out; omega) (fun j x y hx hy => hall'.out j x y (by have := (List.getElem?_eq_some_iff.1 hx).1; have := hln'.out; omega) hx hy))
                  go_wp2
                  go_ret
                  exact retg_bool hvt.out.symm hPk.out
end Go.Proofs.YtbjpnjgkpkfngaaGreatDoor
