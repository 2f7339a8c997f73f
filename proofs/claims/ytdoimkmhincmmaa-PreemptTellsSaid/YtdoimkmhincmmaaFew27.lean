/- few: of layer 27. -/
import Derived.Test.YtdoimkmhincmmaaRsm
import Derived.Test.YtdoimkmhincmmaaCopp
import Derived.Maps.Own
import Derived.Maps.OwnSet
import Derived.Maps.Views
namespace Go.Proofs.Ytdoimkmhincmmaa
namespace Pre
open Go Go.RowKit Lin Lck Cst Sct Go.Maps

theorem nkeyed : Keyed Try.prog 3 := int_keyed Try.underlying3
theorem nwf {x : Int} (h1 : -9223372036854775808 ≤ x) (h2 : x ≤ 9223372036854775807) : (Lit.int .i64 x).wf = true := by
  have e1 : IntKind.i64.min = -9223372036854775808 := by decide
  have e2 : IntKind.i64.max = 9223372036854775807 := by decide
  simp [Lit.wf, e1, e2]
  omega
theorem bool_inv {P : Program} {e : TypeId} (he : P.underlying e = some .bool) {v : Value} {z : DataW Unit × List MemPlace} (h : plainElem P e v = some z) : ∃ b, v = .bool b := by
  cases v
  case bool b => exact ⟨b, rfl⟩
  all_goals simp [plainElem, he] at h
/-- A map of numbers to bools, of at most n. -/
def MapB (w : World) (bm n : Nat) : Prop := ∃ D : DataW Unit, w.ownsMap Try.prog 3 (plainElem Try.prog 4) bm n D
theorem MapB.kept {A : Nat → Prop} {w w' : World} {bm n : Nat} (h : MapB w bm n) (ho : Only A w w') (hA : ¬ A bm) : MapB w' bm n := by
  obtain ⟨D, es, clock, hb, hr⟩ := h
  exact ⟨D, es, clock, ho.heap hb hA, hr⟩
theorem MapB.look {w : World} {bm n : Nat} (h : MapB w bm n) {x : Int} (h1 : -9223372036854775808 ≤ x) (h2 : x ≤ 9223372036854775807) : ∃ b, (Instr.lookup 46 (.map (some bm)) (.int .i64 x) false).run Try.prog w = .ok (.bool b) w := by
  obtain ⟨D, hD⟩ := h
  obtain ⟨v, ps, hrun, hv⟩ := hD.lookup nkeyed Try.underlying46 (z := .bool false) (by kernel_rfl) (plainElem_bool Try.underlying4 false) (keyOf_int_mk Try.underlying3 (nwf h1 h2))
  obtain ⟨b, rfl⟩ := bool_inv Try.underlying4 hv
  exact ⟨b, hrun⟩
theorem MapB.put {w : World} {bm n : Nat} (h : MapB w bm n) {x : Int} (h1 : -9223372036854775808 ≤ x) (h2 : x ≤ 9223372036854775807) (hn : n < maxLen) (b : Bool) : ∃ w', (Instr.mapUpdate 46 (.map (some bm)) (.int .i64 x) (.bool b)).run Try.prog w = .ok () w' ∧ MapB w' bm (n + 1) ∧ Only (fun k => k = bm) w w' := by
  obtain ⟨D, hD⟩ := h
  obtain ⟨w', hrun, ho, hg⟩ := hD.update nkeyed Try.underlying46 hn (keyOf_int_mk Try.underlying3 (nwf h1 h2)) (plainElem_bool Try.underlying4 b)
  exact ⟨w', hrun, ⟨_, ho⟩, (Only.refl _ w).grown hg (fun x hx _ => by simpa using hx.symm)⟩

structure FewOk (c : ConfV) (d : ConfL) (pl : Tks) : Prop where
  ce : ∀ (k : Nat) z, d.ce[k]? = some z → -64 ≤ z ∧ z ≤ 64
  ta : ∀ (i : Nat) t, pl.ts[i]? = some t → (-64 ≤ t.th ∧ t.th ≤ 64) ∧ t.o.n ≤ 30 ∧ t.fl ≤ 1099511627776
  fe : fewB c pl.ts = true
def FewEnd (c : ConfV) (d : ConfL) (pl : Tks) (w : World) (e : Ending) (w' : World) : Prop := ∃ F, e = .returned (.bool F) ∧ (F = true → FewOk c d pl) ∧ Only (fun _ => False) w w'

set_option maxRecDepth 100000 in
set_option maxHeartbeats 4000000 in
theorem few27_any {w : World} {c : ConfV} {d : ConfL} {pl : Tks} (hC : ConfIn w c d pl) (hcn : c.ce.n ≤ 9223372036854775807) (hop : ∀ (i : Nat) t l, pl[i]? = some (t, l) → ∀ (j : Nat) o, l[j]? = some o → -9223372036854775808 ≤ o.a ∧ o.a ≤ 9223372036854775807) : Calls Try.prog 7 #[c.val] w (FewEnd c d pl w) := by
  obtain ⟨Z, hZ⟩ : ∃ Z, Z = FewEnd c d pl w := ⟨_, rfl⟩
  rw [← hZ]
  have hZ' := Lib.hid hZ
  clear hZ
  have hO := (Only.refl (fun _ => False) w).alloc (.cells c.cells.toArray 27)
  have hB := heap_new_at w (.cells c.cells.toArray 27) rfl
  obtain ⟨W1, hW1⟩ : ∃ W1, W1 = w.alloc (.cells c.cells.toArray 27) := ⟨_, rfl⟩
  rw [← hW1] at hB hO
  have hB' := Lib.hid hB
  have hO' := Lib.hid hO
  have hfew := Lib.hid (fun W (h : Only (fun _ => False) w W) => (hC.new h).few)
  obtain ⟨F, hF⟩ : ∃ F, F = fewB c pl.ts := ⟨_, rfl⟩
  rw [← hF] at hfew
  have hce := Lib.hid (fun W (h : Only (fun _ => False) w W) => (hC.new h).ce)
  have hta := Lib.hid (fun W (h : Only (fun _ => False) w W) => (hC.new h).t)
  have hcl := Lib.hid hC.ce.len
  have htl := Lib.hid hC.t.len
  have htn := hC.n
  have hCi := Lib.hid (fun W (h : Only (fun _ => False) w W) => hC.new h)
  have hpl := Lib.hid (show pl.length = c.ta.n by have := hC.t.len; unfold Tks.ts at this; simpa using this)
  have hop' := Lib.hid hop
  clear hop
  have hfin := Lib.hid (fun (W : World) (h : Only (fun _ => False) w W) (h1 : ∀ (k : Nat) z, d.ce[k]? = some z → -64 ≤ z ∧ z ≤ 64) (h2 : ∀ (i : Nat) t, pl.ts[i]? = some t → (-64 ≤ t.th ∧ t.th ≤ 64) ∧ t.o.n ≤ 30 ∧ t.fl ≤ 1099511627776) => show Z (.returned (.bool F)) W from by
    rw [hZ'.out]
    exact ⟨F, rfl, fun hf => ⟨h1, h2, by rw [← hF]; exact hf⟩, h⟩)
  have hno := Lib.hid (fun (W : World) (h : Only (fun _ => False) w W) => show Z (.returned (.bool false)) W from by
    rw [hZ'.out]
    exact ⟨false, rfl, (fun hf => by cases hf), h⟩)
  obtain ⟨q, hqq⟩ : ∃ q, q = w.heap.size := ⟨_, rfl⟩
  have hqq' := Lib.hid hqq
  rw [← hqq] at hB'
  clear hO hB hqq hC hF
  rw [show c.val = .agg #[.int .i64 c.s, .int .i64 c.wy, .int .i64 c.h, .int .i64 c.mi, .slice c.mb.A c.mb.n c.mb.cap, .int .i64 c.g, .slice c.cn.A c.cn.n c.cn.cap, .slice c.ce.A c.ce.n c.ce.cap, .slice c.ta.A c.ta.n c.ta.cap, .slice c.li.A c.li.n c.li.cap] from rfl]
  unfold ConfV.cells at hW1 hB'
  obtain ⟨s, wy, h, mi, ⟨mA, mn, mc⟩, g, ⟨cA, cn, cc⟩, ⟨eA, en, ec⟩, ⟨tA, tn, tc⟩, ⟨lA, ln, lc⟩⟩ := c
  dsimp only at *
  have hW1' := Lib.hid hW1
  clear hW1
  have e7 := row_cell hB'.out (i := 7) rfl
  have hqlt := row_lt hB'.out
  go_enter Try.func7, Try.ntmps7
  go_upto_region 1 with fail
  rw [← hqq'.out, ← hW1'.out]
  go_wp2
  go_loopw [13] (fun i' wr => ∃ k : Nat, k ≤ en ∧ i' = .int .i64 k ∧ (∀ (j : Nat) z, j < k → d.ce[j]? = some z → -64 ≤ z ∧ z ≤ 64) ∧ W1 = wr) (fun i' _ => en - (intOf i').toNat)
  case atStart => exact ⟨0, Nat.zero_le _, rfl, (fun j z hj => by omega), rfl⟩
  case round =>
    obtain ⟨k, hk, rfl, hall, rfl⟩ := hrel
    have hall' := Lib.hid hall
    clear hall
    by_cases hkn : k < en
    · have hkn' : (k : Int) < (en : Int) := by omega
      obtain ⟨z, hz⟩ : ∃ z, d.ce[k]? = some z := ⟨_, List.getElem?_eq_getElem (by have := hcl.out; omega)⟩
      obtain ⟨vb, voff, hvA, hvb, hvc⟩ := (hce.out _ hO'.out).at_ k z hz
      cases hvA
      have hz' := Lib.hid hz
      clear hz
      by_cases h1 : 64 < z
      · have hend := Lib.hid (hno.out _ hO'.out)
        go_wp2
        exact hend.out
      by_cases h2 : z < -64
      · have hend := Lib.hid (hno.out _ hO'.out)
        go_wp2
        exact hend.out
      have hnext := Lib.hid (show ∀ (j : Nat) y, j < k + 1 → d.ce[j]? = some y → -64 ≤ y ∧ y ≤ 64 from fun j y hj hy => by
        by_cases hjk : j = k
        · subst hjk
          rw [hz'.out] at hy
          cases hy
          omega
        · exact hall'.out j y (by omega) hy)
      go_wp2
      go_roundw
      case rel => exact ⟨k + 1, by omega, by go_num, hnext.out, by simp⟩
      case measure => simp [intOf]; omega
    · obtain rfl : k = en := by omega
      have hkn' : ¬ (k : Int) < (k : Int) := by omega
      have hc9 := Lib.hid (show ∀ (j : Nat) z, d.ce[j]? = some z → -64 ≤ z ∧ z ≤ 64 from fun j z hz => hall'.out j z (by have := (List.getElem?_eq_some_iff.1 hz).1; have := hcl.out; omega) hz)
      have e8 := row_cell hB'.out (i := 8) rfl
      clear hall'
      go_wp2
      clear e8
      go_loopw [27] (fun i' wr => ∃ k : Nat, k ≤ tn ∧ i' = .int .i64 k ∧ (∀ (j : Nat) t, j < k → pl.ts[j]? = some t → (-64 ≤ t.th ∧ t.th ≤ 64) ∧ t.o.n ≤ 30 ∧ t.fl ≤ 1099511627776) ∧ Only (fun _ => False) W1 wr) (fun i' _ => tn - (intOf i').toNat)
      case atStart => exact ⟨0, Nat.zero_le _, rfl, (fun j z hj => by omega), Only.refl _ _⟩
      case round =>
        obtain ⟨y, hy, rfl, hall, hOy⟩ := hrel
        obtain ⟨ws, hws⟩ : ∃ ws : World, ws = wr := ⟨_, rfl⟩
        subst hws
        have hall' := Lib.hid hall
        have hOw := Lib.hid (hO'.out.trans' hOy)
        have hOy' := Lib.hid hOy
        have hBs := Lib.hid (hOy.heap hB'.out (fun h => h))
        clear hall hOy
        by_cases hyn : y < tn
        · have hyn' : (y : Int) < (tn : Int) := by omega
          obtain ⟨⟨t, l⟩, hpi⟩ : ∃ x, pl[y]? = some x := ⟨_, List.getElem?_eq_getElem (by have := hpl.out; omega)⟩
          have ht' := Lib.hid (ts_some hpi)
          have hpo := Lib.hid (hop'.out y t l hpi)
          have hrow := Lib.hid (fun W (h : Only (fun _ => False) w W) => ((hCi.out W h).p y t l hpi).1)
          have hln := Lib.hid ((hCi.out _ hOw.out).p y t l hpi).2.1
          obtain ⟨vb, voff, hvA, hvb, hvc⟩ := (hta.out _ hOw.out).at_ y t ht'.out
          cases hvA
          obtain ⟨c0, c1, c2, c3, c4, c5, c6⟩ := hvc
          clear hpi
          obtain ⟨tp, tth, tpe, tde, tfr, tfl, ⟨oA, on, oc⟩⟩ := t
          dsimp only at c0 c1 c2 c3 c4 c5 c6 hrow hln
          have hmk := @run_makeMap Try.prog
          go_upto_region 10 with fail
          generalize hw4 : ws.alloc (.cells #[.int .i64 tp, .int .i64 tth, .int .i64 tpe, .int .i64 tde, .int .i64 tfr, .int .i64 tfl, .slice oA on oc] 38) = w4
          have hO4 : Only (fun _ => False) ws w4 := by rw [← hw4]; exact (Only.refl _ _).alloc _
          obtain ⟨Y, hY⟩ : ∃ Y, Y = ws.heap.size := ⟨_, rfl⟩
          have hy4 : w4.heap[Y]? = some (.cells #[.int .i64 tp, .int .i64 tth, .int .i64 tpe, .int .i64 tde, .int .i64 tfr, .int .i64 tfl, .slice oA on oc] 38 (0, 0)) := by rw [← hw4]; exact heap_new_at _ _ hY.symm
          rw [← hY]
          have hend := Lib.hid (hno.out _ (hOw.out.trans' hO4))
          clear c0 c1 c2 c3 c4 c5 c6 hvb hw4 hY
          have y1 := row_cell (L := [.int .i64 tp, .int .i64 tth, .int .i64 tpe, .int .i64 tde, .int .i64 tfr, .int .i64 tfl, .slice oA on oc]) hy4 (i := 1) rfl
          have y5 := row_cell (L := [.int .i64 tp, .int .i64 tth, .int .i64 tpe, .int .i64 tde, .int .i64 tfr, .int .i64 tfl, .slice oA on oc]) hy4 (i := 5) rfl
          have y6 := row_cell (L := [.int .i64 tp, .int .i64 tth, .int .i64 tpe, .int .i64 tde, .int .i64 tfr, .int .i64 tfl, .slice oA on oc]) hy4 (i := 6) rfl
          have hyl := row_lt hy4
          have hO4' := Lib.hid hO4
          have hy4' := Lib.hid hy4
          clear hO4 hy4
          by_cases h1 : 64 < tth
          · go_wp2
            exact hend.out
          by_cases h2 : tth < -64
          · go_wp2
            exact hend.out
          by_cases h3 : 30 < on
          · have h3' : (30 : Int) < (on : Int) := by omega
            go_wp2
            exact hend.out
          have h3' : ¬ (30 : Int) < (on : Int) := by omega
          by_cases h4 : 1099511627776 < tfl
          · go_wp2
            exact hend.out
          have hnext := Lib.hid (show ∀ (j : Nat) t, j < y + 1 → pl.ts[j]? = some t → (-64 ≤ t.th ∧ t.th ≤ 64) ∧ t.o.n ≤ 30 ∧ t.fl ≤ 1099511627776 from fun j t hj hty => by
            by_cases hjk : j = y
            · subst hjk
              rw [ht'.out] at hty
              cases hty
              dsimp only
              omega
            · exact hall'.out j t (by omega) hty)
          go_upto_region 13 with fail
          obtain ⟨bm, hbm⟩ : ∃ bm, bm = w4.heap.size := ⟨_, rfl⟩
          generalize hw5 : w4.alloc (.map #[] 0) = w5
          have hO45 : Only (fun _ => False) w4 w5 := by rw [← hw5]; exact (Only.refl _ _).alloc _
          have hm5 := Lib.hid (show MapB w5 bm 0 from by rw [← hw5, hbm]; exact ⟨_, World.ownsMap_made _ _ _ _⟩)
          rw [← hbm]
          have hbw := Lib.hid (show ws.heap.size ≤ bm from by rw [hbm]; exact hO4'.out.size)
          have hO5 := Lib.hid (hO4'.out.trans' hO45)
          have hy5 := hO45.heap hy4'.out (fun h => h)
          clear y1 y5 y6 hyl
          have y6 := row_cell (L := [.int .i64 tp, .int .i64 tth, .int .i64 tpe, .int .i64 tde, .int .i64 tfr, .int .i64 tfl, .slice oA on oc]) hy5 (i := 6) rfl
          have hyl := row_lt hy5
          clear hw5 hbm hO45 hy5 hmk
          go_wp2
          clear y6 hyl
          go_loopw [54] (fun i' wr => ∃ j n : Nat, j ≤ on ∧ n ≤ j ∧ i' = .int .i64 j ∧ MapB wr bm n ∧ Only (fun _ => False) ws wr) (fun i' _ => on - (intOf i').toNat)
          case atStart => exact ⟨0, 0, Nat.zero_le _, Nat.le_refl _, rfl, hm5.out, hO5.out⟩
          case round =>
            obtain ⟨j, n, hj, hnj, rfl, hM, hO⟩ := hrel
            obtain ⟨wl, hwl⟩ : ∃ wl : World, wl = wr := ⟨_, rfl⟩
            subst hwl
            have hM' := Lib.hid hM
            have hOl := Lib.hid hO
            clear hM hO
            by_cases hjn : j < on
            · have hjn' : (j : Int) < (on : Int) := by omega
              obtain ⟨o, ho⟩ : ∃ o, l[j]? = some o := ⟨_, List.getElem?_eq_getElem (by have := hln.out; omega)⟩
              obtain ⟨hA1, hA2⟩ := hpo.out j o ho
              obtain ⟨vb, voff, hvA, hvb, d0, d1, d2⟩ := opn_row (hrow.out _ (hOw.out.trans' hOl.out)) ho
              subst hvA
              obtain ⟨K, A, B⟩ := o
              dsimp only at hA1 hA2 d0 d1 d2
              clear ho
              have hOa := Lib.hid ((Only.refl (fun _ => False) wl).alloc (.cells #[.int .i64 K, .int .i64 A, .int .i64 B] 48))
              have hMa := Lib.hid (hM'.out.kept hOa.out (fun h => h))
              have hOs2 := Lib.hid (hOl.out.trans' hOa.out)
              have hend := Lib.hid (hno.out _ (hOw.out.trans' hOs2.out))
              by_cases h5 : K = 5
              · subst h5
                obtain ⟨b, hlk⟩ := hMa.out.look hA1 hA2
                obtain ⟨w6, hup, hM6, hO6⟩ := hMa.out.put hA1 hA2 (by unfold maxLen; omega) true
                have hM6' := Lib.hid hM6
                have hO6' := Lib.hid (hOs2.out.trans hO6 (fun x hx e => by have := hbw.out; omega))
                clear hM6 hO6
                cases b
                · go_wp2
                  go_roundw
                  case rel => exact ⟨j + 1, n + 1, by omega, by omega, by go_num, hM6'.out, hO6'.out⟩
                  case measure => simp [intOf]; omega
                · go_wp2
                  exact hend.out
              by_cases h6 : K = 6
              · subst h6
                obtain ⟨w6, hup, hM6, hO6⟩ := hMa.out.put hA1 hA2 (by unfold maxLen; omega) false
                have hM6' := Lib.hid hM6
                have hO6' := Lib.hid (hOs2.out.trans hO6 (fun x hx e => by have := hbw.out; omega))
                clear hM6 hO6
                go_wp2
                go_roundw
                case rel => exact ⟨j + 1, n + 1, by omega, by omega, by go_num, hM6'.out, hO6'.out⟩
                case measure => simp [intOf]; omega
              · have g5 : (K == 5) = false := beq_eq_false_iff_ne.2 h5
                have g6 : (K == 6) = false := beq_eq_false_iff_ne.2 h6
                clear h5 h6
                go_wp2
                go_roundw
                case rel => exact ⟨j + 1, n, by omega, by omega, by go_num, hMa.out, hOs2.out⟩
                case measure => simp [intOf]; omega
            · obtain rfl : j = on := by omega
              have hjn' : ¬ (j : Int) < (j : Int) := by omega
              go_wp2
              go_roundw
              case rel => exact ⟨y + 1, by omega, by go_num, hnext.out, hOy'.out.trans' hOl.out⟩
              case measure => simp [intOf]; omega
        · obtain rfl : y = tn := by omega
          have hyn' : ¬ (y : Int) < (y : Int) := by omega
          have ht9 := Lib.hid (show ∀ (j : Nat) t, pl.ts[j]? = some t → (-64 ≤ t.th ∧ t.th ≤ 64) ∧ t.o.n ≤ 30 ∧ t.fl ≤ 1099511627776 from fun j t ht => hall'.out j t (by have := (List.getElem?_eq_some_iff.1 ht).1; have := htl.out; omega) ht)
          have e0 := row_cell hBs.out (i := 0) rfl
          have e1 := row_cell hBs.out (i := 1) rfl
          have e2 := row_cell hBs.out (i := 2) rfl
          have e3 := row_cell hBs.out (i := 3) rfl
          have e4 := row_cell hBs.out (i := 4) rfl
          have e5 := row_cell hBs.out (i := 5) rfl
          have e6 := row_cell hBs.out (i := 6) rfl
          have e7 := row_cell hBs.out (i := 7) rfl
          have e8 := row_cell hBs.out (i := 8) rfl
          have e9 := row_cell hBs.out (i := 9) rfl
          have hql := row_lt hBs.out
          clear hall'
          go_wp2_with fail
          refine (hfew.out _ hOw.out).mono ?_
          rintro e w4 ⟨rfl, hO4⟩
          have hend := Lib.hid (hfin.out _ (hOw.out.trans' hO4) hc9.out ht9.out)
          clear hO4
          go_wp2
          exact hend.out
end Pre
end Go.Proofs.Ytdoimkmhincmmaa
