/- Few. -/
import Derived.Test.YtdoimkmhincmmaaBcOrdr
import Derived.Test.YtdoimkmhincmmaaBcSlk
namespace Go.Proofs.Ytdoimkmhincmmaa
namespace Bch
open Go Go.RowKit

abbrev GrowB := AnsB
theorem retg_bool {a b : Bool} {w w' : World} (h : a = b) (ho : Only (fun _ => False) w w') : GrowB b w (.returned (.bool a)) w' := ⟨by rw [h], ho⟩
def fewB (c : ConfV) (ts : List TaskV) : Bool := ts.all (fun t => decide (t.o.n ≤ 80)) && decide (c.mb.n ≤ 20 ∧ c.cn.n ≤ 20 ∧ c.ce.n ≤ 20 ∧ c.ta.n ≤ 20 ∧ c.li.n ≤ 20)
theorem few_all {ts : List TaskV} {n : Nat} (hn : ts.length = n) (h : ∀ (j : Nat) t, j < n → ts[j]? = some t → t.o.n ≤ 80) : ts.all (fun t => decide (t.o.n ≤ 80)) = true := by
  rw [List.all_eq_true]
  intro t ht
  obtain ⟨k, hk⟩ := List.getElem?_of_mem ht
  exact decide_eq_true (h k t (by have := (List.getElem?_eq_some_iff.1 hk).1; omega) hk)
theorem few_bad {ts : List TaskV} {k : Nat} {t : TaskV} (hk : ts[k]? = some t) (h : 80 < t.o.n) : ts.all (fun t => decide (t.o.n ≤ 80)) = false := by
  rw [List.all_eq_false]
  exact ⟨t, List.mem_of_getElem? hk, by simp; omega⟩

set_option maxRecDepth 100000 in
set_option maxHeartbeats 2000000 in
theorem few_any {w : World} {c : ConfV} {ts : List TaskV} (hT : TasksAt w c.ta ts) (hs : c.ta.n ≤ 9223372036854775807) : Calls Try.prog 16 #[c.val] w (GrowB (fewB c ts) w) := by
  have hO := (Only.refl (fun _ => False) w).alloc (.cells c.cells.toArray 27)
  have hB := heap_new_at w (.cells c.cells.toArray 27) rfl
  obtain ⟨W1, hW1⟩ : ∃ W1, W1 = w.alloc (.cells c.cells.toArray 27) := ⟨_, rfl⟩
  have e0 := row_cell hB (i := 0) rfl
  have e1 := row_cell hB (i := 1) rfl
  have e2 := row_cell hB (i := 2) rfl
  have e3 := row_cell hB (i := 3) rfl
  have e4 := row_cell hB (i := 4) rfl
  have e5 := row_cell hB (i := 5) rfl
  have e6 := row_cell hB (i := 6) rfl
  have e7 := row_cell hB (i := 7) rfl
  have e8 := row_cell hB (i := 8) rfl
  have e9 := row_cell hB (i := 9) rfl
  have hlt1 := row_lt hB
  rw [← hW1] at e0 e1 e2 e3 e4 e5 e6 e7 e8 e9 hO hlt1
  obtain ⟨V, hV⟩ : ∃ V, V = fewB c ts := ⟨_, rfl⟩
  rw [← hV]
  unfold fewB at hV
  obtain ⟨F, hF⟩ : ∃ F, F = ts.all (fun t => decide (t.o.n ≤ 80)) := ⟨_, rfl⟩
  rw [← hF] at hV
  have hlen := hT.len
  rw [show c.val = .agg #[.int .i64 c.s, .int .i64 c.wy, .int .i64 c.h, .int .i64 c.mi, .slice c.mb.A c.mb.n c.mb.cap, .int .i64 c.g, .slice c.cn.A c.cn.n c.cn.cap, .slice c.ce.A c.ce.n c.ce.cap, .slice c.ta.A c.ta.n c.ta.cap, .slice c.li.A c.li.n c.li.cap] from rfl]
  unfold ConfV.cells at hW1
  have hT' := Lib.hid hT
  obtain ⟨s, wy, h, mi, ⟨mA, mn, mc⟩, g, ⟨cA, cn, cc⟩, ⟨eA, en, ec⟩, ⟨tA, tn, tc⟩, ⟨lA, ln, lc⟩⟩ := c
  simp only at *
  have hW1' := Lib.hid hW1
  have hO' := Lib.hid hO
  have hV' := Lib.hid hV
  have hF' := Lib.hid hF
  have hlen' := Lib.hid hlen
  clear hT hB hW1 hO hV hF hlen
  go_enter Try.func16, Try.ntmps16
  go_wp2
  rw [← hW1'.out]
  go_loopw [8] (fun i wr => ∃ k : Nat, k ≤ tn ∧ i = .int .i64 k ∧ (∀ (j : Nat) t, j < k → ts[j]? = some t → t.o.n ≤ 80) ∧ Only (fun _ => False) W1 wr) (fun i _ => tn - (intOf i).toNat)
  case atStart => exact ⟨0, Nat.zero_le _, rfl, (fun j _ hj => by omega), Only.refl _ W1⟩
  case round =>
    obtain ⟨k, hk, rfl, hall, hOk⟩ := hrel
    replace e0 := hOk.cell e0 (fun h => h)
    replace e1 := hOk.cell e1 (fun h => h)
    replace e2 := hOk.cell e2 (fun h => h)
    replace e3 := hOk.cell e3 (fun h => h)
    replace e4 := hOk.cell e4 (fun h => h)
    replace e5 := hOk.cell e5 (fun h => h)
    replace e6 := hOk.cell e6 (fun h => h)
    replace e7 := hOk.cell e7 (fun h => h)
    replace e8 := hOk.cell e8 (fun h => h)
    replace e9 := hOk.cell e9 (fun h => h)
    replace hlt1 := Nat.lt_of_lt_of_le hlt1 hOk.size
    have hOk' := Lib.hid hOk
    have hPk := Lib.hid (hO'.out.trans' hOk)
    have hall' := Lib.hid hall
    clear hall hOk
    by_cases hkn : k < tn
    · have hkn' : (k : Int) < (tn : Int) := by omega
      obtain ⟨t, ht⟩ : ∃ t, ts[k]? = some t := ⟨_, List.getElem?_eq_getElem (by have := hlen'.out; omega)⟩
      obtain ⟨bb, off, hA, hb, hC⟩ := hT'.out.at_ k t ht
      simp only at hA
      subst hA
      obtain ⟨c0, c1, c2, c3, c4, c5, c6⟩ := hC.new hPk.out
      have hb3 := Nat.lt_of_lt_of_le hb hPk.out.size
      have hbad := Lib.hid (fun (h : 80 < t.o.n) => show V = false by rw [hV'.out, hF'.out, few_bad ht h]; rfl)
      have hnx := Lib.hid (fun (h : t.o.n ≤ 80) => show ∀ (j : Nat) u, j < k + 1 → ts[j]? = some u → u.o.n ≤ 80 from fun j u hj hu => by
        by_cases hjk : j < k
        · exact hall'.out j u hjk hu
        · obtain rfl : j = k := by omega
          rw [ht] at hu
          cases hu
          exact h)
      clear hC ht hb
      obtain ⟨P, th, pe, de, fr, fl, ⟨oA, on, oc⟩⟩ := t
      simp only at *
      by_cases h80 : 80 < on
      · have hv := Lib.hid (hbad.out h80)
        have h80' : (80 : Int) < (on : Int) := by omega
        clear hbad hnx
        go_wp2
        go_ret
        exact retg_bool hv.out.symm (hPk.out.alloc _)
      · have hnw := Lib.hid (hnx.out (by omega))
        have h80' : ¬ (80 : Int) < (on : Int) := by omega
        clear hbad hnx
        go_wp2
        go_roundw
        case rel => exact ⟨k + 1, by omega, by go_num, hnw.out, hOk'.out.alloc _⟩
        case measure => simp [intOf]; omega
    · obtain rfl : k = tn := by omega
      have hF2 := Lib.hid (show F = true by rw [hF'.out]; exact few_all hlen'.out hall'.out)
      by_cases u0 : mn ≤ 20
      rotate_left
      · have hv := Lib.hid (show V = false by rw [hV'.out, hF2.out, decide_eq_false (by omega)]; rfl)
        have uu : ¬ (mn : Int) ≤ 20 := by omega
        go_wp2
        go_ret
        exact retg_bool (by first | exact hv.out.symm | (rw [hv.out]; simp)) hPk.out
      · have uu0 : (mn : Int) ≤ 20 := by omega
        by_cases u1 : cn ≤ 20
        rotate_left
        · have hv := Lib.hid (show V = false by rw [hV'.out, hF2.out, decide_eq_false (by omega)]; rfl)
          have uu : ¬ (cn : Int) ≤ 20 := by omega
          go_wp2
          go_ret
          exact retg_bool (by first | exact hv.out.symm | (rw [hv.out]; simp)) hPk.out
        · have uu1 : (cn : Int) ≤ 20 := by omega
          by_cases u2 : en ≤ 20
          rotate_left
          · have hv := Lib.hid (show V = false by rw [hV'.out, hF2.out, decide_eq_false (by omega)]; rfl)
            have uu : ¬ (en : Int) ≤ 20 := by omega
            go_wp2
            go_ret
            exact retg_bool (by first | exact hv.out.symm | (rw [hv.out]; simp)) hPk.out
          · have uu2 : (en : Int) ≤ 20 := by omega
            by_cases u3 : k ≤ 20
            rotate_left
            · have hv := Lib.hid (show V = false by rw [hV'.out, hF2.out, decide_eq_false (by omega)]; rfl)
              have uu : ¬ (k : Int) ≤ 20 := by omega
              go_wp2
              go_ret
              exact retg_bool (by first | exact hv.out.symm | (rw [hv.out]; simp)) hPk.out
            · have uu3 : (k : Int) ≤ 20 := by omega
              by_cases u4 : ln ≤ 20
              rotate_left
              · have hv := Lib.hid (show V = false by rw [hV'.out, hF2.out, decide_eq_false (by omega)]; rfl)
                have uu : ¬ (ln : Int) ≤ 20 := by omega
                go_wp2
                go_ret
                exact retg_bool (by first | exact hv.out.symm | (rw [hv.out]; simp)) hPk.out
              · have uu4 : (ln : Int) ≤ 20 := by omega
                have hv := Lib.hid (show V = true by rw [hV'.out, hF2.out, decide_eq_true (by omega)]; rfl)
                go_wp2
                go_ret
                exact retg_bool (by first | exact hv.out.symm | (rw [hv.out]; simp)) hPk.out
end Bch
end Go.Proofs.Ytdoimkmhincmmaa
