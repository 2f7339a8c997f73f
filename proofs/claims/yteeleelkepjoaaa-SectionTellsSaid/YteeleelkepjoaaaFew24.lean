/- few: of layer 24. -/
import Derived.Test.YteeleelkepjoaaaRsm
import Derived.Test.YteeleelkepjoaaaCopp
namespace Go.Proofs.Yteeleelkepjoaaa
namespace Sct
open Go Go.RowKit Lin Lck Cst

structure FewOk (c : ConfV) (d : ConfL) (pl : Tks) : Prop where
  ce : ∀ (k : Nat) z, d.ce[k]? = some z → -64 ≤ z ∧ z ≤ 64
  ta : ∀ (i : Nat) t, pl.ts[i]? = some t → (-64 ≤ t.th ∧ t.th ≤ 64) ∧ t.o.n ≤ 40
  fe : fewB c pl.ts = true
def FewEnd (c : ConfV) (d : ConfL) (pl : Tks) (w : World) (e : Ending) (w' : World) : Prop := ∃ F, e = .returned (.bool F) ∧ (F = true → FewOk c d pl) ∧ Only (fun _ => False) w w'

set_option maxRecDepth 100000 in
set_option maxHeartbeats 4000000 in
theorem few24_any {w : World} {c : ConfV} {d : ConfL} {pl : Tks} (hC : ConfIn w c d pl) (hcn : c.ce.n ≤ 9223372036854775807) : Calls Try.prog 15 #[c.val] w (FewEnd c d pl w) := by
  obtain ⟨Z, hZ⟩ : ∃ Z, Z = FewEnd c d pl w := ⟨_, rfl⟩
  rw [← hZ]
  have hZ' := Lib.hid hZ
  clear hZ
  have hO := (Only.refl (fun _ => False) w).alloc (.cells c.cells.toArray 27)
  have hB := heap_new_at w (.cells c.cells.toArray 27) rfl
  obtain ⟨W1, hW1⟩ : ∃ W1, W1 = w.alloc (.cells c.cells.toArray 27) := ⟨_, rfl⟩
  rw [← hW1] at hB hO
  have hB' := Lib.hid hB
  have hO' := Lib.hid hO
  have hfew := Lib.hid (fun W (h : Only (fun _ => False) w W) => (hC.new h).few)
  obtain ⟨F, hF⟩ : ∃ F, F = fewB c pl.ts := ⟨_, rfl⟩
  rw [← hF] at hfew
  have hce := Lib.hid (fun W (h : Only (fun _ => False) w W) => (hC.new h).ce)
  have hta := Lib.hid (fun W (h : Only (fun _ => False) w W) => (hC.new h).t)
  have hcl := Lib.hid hC.ce.len
  have htl := Lib.hid hC.t.len
  have htn := hC.n
  have hfin := Lib.hid (fun (W : World) (h : Only (fun _ => False) w W) (h1 : ∀ (k : Nat) z, d.ce[k]? = some z → -64 ≤ z ∧ z ≤ 64) (h2 : ∀ (i : Nat) t, pl.ts[i]? = some t → (-64 ≤ t.th ∧ t.th ≤ 64) ∧ t.o.n ≤ 40) => show Z (.returned (.bool F)) W from by
    rw [hZ'.out]
    exact ⟨F, rfl, fun hf => ⟨h1, h2, by rw [← hF]; exact hf⟩, h⟩)
  have hno := Lib.hid (fun (W : World) (h : Only (fun _ => False) w W) => show Z (.returned (.bool false)) W from by
    rw [hZ'.out]
    exact ⟨false, rfl, (fun hf => by cases hf), h⟩)
  obtain ⟨q, hqq⟩ : ∃ q, q = w.heap.size := ⟨_, rfl⟩
  have hqq' := Lib.hid hqq
  rw [← hqq] at hB'
  clear hO hB hqq hC hF
  rw [show c.val = .agg #[.int .i64 c.s, .int .i64 c.wy, .int .i64 c.h, .int .i64 c.mi, .slice c.mb.A c.mb.n c.mb.cap, .int .i64 c.g, .slice c.cn.A c.cn.n c.cn.cap, .slice c.ce.A c.ce.n c.ce.cap, .slice c.ta.A c.ta.n c.ta.cap, .slice c.li.A c.li.n c.li.cap] from rfl]
  unfold ConfV.cells at hW1 hB'
  obtain ⟨s, wy, h, mi, ⟨mA, mn, mc⟩, g, ⟨cA, cn, cc⟩, ⟨eA, en, ec⟩, ⟨tA, tn, tc⟩, ⟨lA, ln, lc⟩⟩ := c
  dsimp only at *
  have hW1' := Lib.hid hW1
  clear hW1
  have e7 := row_cell hB'.out (i := 7) rfl
  have hqlt := row_lt hB'.out
  go_enter Try.func15, Try.ntmps15
  go_upto_region 1 with fail
  rw [← hqq'.out, ← hW1'.out]
  go_wp2
  go_loopw [10] (fun i' wr => ∃ k : Nat, k ≤ en ∧ i' = .int .i64 k ∧ (∀ (j : Nat) z, j < k → d.ce[j]? = some z → -64 ≤ z ∧ z ≤ 64) ∧ W1 = wr) (fun i' _ => en - (intOf i').toNat)
  case atStart => exact ⟨0, Nat.zero_le _, rfl, (fun j z hj => by omega), rfl⟩
  case round =>
    obtain ⟨k, hk, rfl, hall, rfl⟩ := hrel
    have hall' := Lib.hid hall
    clear hall
    by_cases hkn : k < en
    · have hkn' : (k : Int) < (en : Int) := by omega
      obtain ⟨z, hz⟩ : ∃ z, d.ce[k]? = some z := ⟨_, List.getElem?_eq_getElem (by have := hcl.out; omega)⟩
      obtain ⟨vb, voff, hvA, hvb, hvc⟩ := (hce.out _ hO'.out).at_ k z hz
      cases hvA
      have hz' := Lib.hid hz
      clear hz
      by_cases h1 : 64 < z
      · have hend := Lib.hid (hno.out _ hO'.out)
        go_wp2
        exact hend.out
      by_cases h2 : z < -64
      · have hend := Lib.hid (hno.out _ hO'.out)
        go_wp2
        exact hend.out
      have hnext := Lib.hid (show ∀ (j : Nat) y, j < k + 1 → d.ce[j]? = some y → -64 ≤ y ∧ y ≤ 64 from fun j y hj hy => by
        by_cases hjk : j = k
        · subst hjk
          rw [hz'.out] at hy
          cases hy
          omega
        · exact hall'.out j y (by omega) hy)
      go_wp2
      go_roundw
      case rel => exact ⟨k + 1, by omega, by go_num, hnext.out, by simp⟩
      case measure => simp [intOf]; omega
    · obtain rfl : k = en := by omega
      have hkn' : ¬ (k : Int) < (k : Int) := by omega
      have hc9 := Lib.hid (show ∀ (j : Nat) z, d.ce[j]? = some z → -64 ≤ z ∧ z ≤ 64 from fun j z hz => hall'.out j z (by have := (List.getElem?_eq_some_iff.1 hz).1; have := hcl.out; omega) hz)
      have e8 := row_cell hB'.out (i := 8) rfl
      clear hall'
      go_wp2
      clear e8
      go_loopw [24] (fun i' wr => ∃ k : Nat, k ≤ tn ∧ i' = .int .i64 k ∧ (∀ (j : Nat) t, j < k → pl.ts[j]? = some t → (-64 ≤ t.th ∧ t.th ≤ 64) ∧ t.o.n ≤ 40) ∧ Only (fun _ => False) W1 wr) (fun i' _ => tn - (intOf i').toNat)
      case atStart => exact ⟨0, Nat.zero_le _, rfl, (fun j z hj => by omega), Only.refl _ _⟩
      case round =>
        obtain ⟨y, hy, rfl, hall, hOy⟩ := hrel
        obtain ⟨ws, hws⟩ : ∃ ws : World, ws = wr := ⟨_, rfl⟩
        subst hws
        have hall' := Lib.hid hall
        have hOw := Lib.hid (hO'.out.trans' hOy)
        have hOy' := Lib.hid hOy
        have hBs := Lib.hid (hOy.heap hB'.out (fun h => h))
        clear hall hOy
        by_cases hyn : y < tn
        · have hyn' : (y : Int) < (tn : Int) := by omega
          obtain ⟨t, ht⟩ : ∃ t, pl.ts[y]? = some t := ⟨_, List.getElem?_eq_getElem (by have := htl.out; omega)⟩
          obtain ⟨vb, voff, hvA, hvb, hvc⟩ := (hta.out _ hOw.out).at_ y t ht
          cases hvA
          obtain ⟨c0, c1, c2, c3, c4, c5, c6⟩ := hvc
          have ht' := Lib.hid ht
          clear ht
          obtain ⟨tp, tth, tpe, tde, tfr, tfl, ⟨oA, on, oc⟩⟩ := t
          dsimp only at c0 c1 c2 c3 c4 c5 c6
          have hOa := Lib.hid (hOw.out.alloc (.cells #[.int .i64 tp, .int .i64 tth, .int .i64 tpe, .int .i64 tde, .int .i64 tfr, .int .i64 tfl, .slice oA on oc] 36))
          have hOb := Lib.hid (hOy'.out.alloc (.cells #[.int .i64 tp, .int .i64 tth, .int .i64 tpe, .int .i64 tde, .int .i64 tfr, .int .i64 tfl, .slice oA on oc] 36))
          have hend := Lib.hid (hno.out _ hOa.out)
          by_cases h1 : 64 < tth
          · go_wp2
            exact hend.out
          by_cases h2 : tth < -64
          · go_wp2
            exact hend.out
          by_cases h3 : 40 < on
          · have h3' : (40 : Int) < (on : Int) := by omega
            go_wp2
            exact hend.out
          have h3' : ¬ (40 : Int) < (on : Int) := by omega
          have hnext := Lib.hid (show ∀ (j : Nat) t, j < y + 1 → pl.ts[j]? = some t → (-64 ≤ t.th ∧ t.th ≤ 64) ∧ t.o.n ≤ 40 from fun j t hj hty => by
            by_cases hjk : j = y
            · subst hjk
              rw [ht'.out] at hty
              cases hty
              dsimp only
              omega
            · exact hall'.out j t (by omega) hty)
          go_wp2
          go_roundw
          case rel => exact ⟨y + 1, by omega, by go_num, hnext.out, hOb.out⟩
          case measure => simp [intOf]; omega
        · obtain rfl : y = tn := by omega
          have hyn' : ¬ (y : Int) < (y : Int) := by omega
          have ht9 := Lib.hid (show ∀ (j : Nat) t, pl.ts[j]? = some t → (-64 ≤ t.th ∧ t.th ≤ 64) ∧ t.o.n ≤ 40 from fun j t ht => hall'.out j t (by have := (List.getElem?_eq_some_iff.1 ht).1; have := htl.out; omega) ht)
          have e0 := row_cell hBs.out (i := 0) rfl
          have e1 := row_cell hBs.out (i := 1) rfl
          have e2 := row_cell hBs.out (i := 2) rfl
          have e3 := row_cell hBs.out (i := 3) rfl
          have e4 := row_cell hBs.out (i := 4) rfl
          have e5 := row_cell hBs.out (i := 5) rfl
          have e6 := row_cell hBs.out (i := 6) rfl
          have e7 := row_cell hBs.out (i := 7) rfl
          have e8 := row_cell hBs.out (i := 8) rfl
          have e9 := row_cell hBs.out (i := 9) rfl
          have hql := row_lt hBs.out
          clear hall'
          go_wp2_with fail
          refine (hfew.out _ hOw.out).mono ?_
          rintro e w4 ⟨rfl, hO4⟩
          have hend := Lib.hid (hfin.out _ (hOw.out.trans' hO4) hc9.out ht9.out)
          clear hO4
          go_wp2
          exact hend.out
end Sct
end Go.Proofs.Yteeleelkepjoaaa
