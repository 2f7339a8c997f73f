/- The document's reading of a line. -/
import Derived.Test.YthippdgmbfaijaaDoorTx8
import Derived.Deep.RegionHeld3
namespace Go.Proofs.YthippdgmbfaijaaDoor
open Go Go.RowKit

theorem words_list {s : List UInt8} (h7 : (splitL 32 s).length = 7) : splitL 32 s = [wd s 0, wd s 1, wd s 2, wd s 3, wd s 4, wd s 5, wd s 6] := by
  unfold wd
  match splitL 32 s, h7 with
  | [a, b, c, d, e, f, g], _ => rfl
/-- With the numbers told, the line is a record's just if the name is its kind's. -/
theorem line_iff {s : List UInt8} {n : Nat → Int} {k : Nat} (h7 : (splitL 32 s).length = 7) (hn : ∀ j, j < 7 → j ≠ 1 → numO (wd s j) = some (n j)) (hk : k < 9) :
    lineL ⟨n 0, k, n 2, n 3, n 4, n 5, n 6⟩ = s ↔ tname k = wd s 1 := by
  have e0 := (numO_some (hn 0 (by omega) (by omega))).2
  have e2 := (numO_some (hn 2 (by omega) (by omega))).2
  have e3 := (numO_some (hn 3 (by omega) (by omega))).2
  have e4 := (numO_some (hn 4 (by omega) (by omega))).2
  have e5 := (numO_some (hn 5 (by omega) (by omega))).2
  have e6 := (numO_some (hn 6 (by omega) (by omega))).2
  have hw : wordsL ⟨n 0, k, n 2, n 3, n 4, n 5, n 6⟩ = [wd s 0, tname k, wd s 2, wd s 3, wd s 4, wd s 5, wd s 6] := by
    unfold wordsL
    simp only [Int.toNat_natCast]
    rw [e0, e2, e3, e4, e5, e6]
  have hl := words_list h7
  have hno := split_no 32 s
  rw [hl] at hno
  constructor
  · intro h
    have h2 : splitL 32 (lineL ⟨n 0, k, n 2, n 3, n 4, n 5, n 6⟩) = [wd s 0, tname k, wd s 2, wd s 3, wd s 4, wd s 5, wd s 6] := by
      unfold lineL
      rw [hw]
      refine split_join 32 _ (by simp) (fun p hp => ?_)
      rcases List.mem_cons.1 hp with rfl | hp
      · exact hno _ (by simp)
      · rcases List.mem_cons.1 hp with rfl | hp
        · exact (tname_fit hk).1
        · exact hno p (by simp only [List.mem_cons] at hp ⊢; rcases hp with h | h | h | h | h | h <;> simp_all)
    rw [h, hl] at h2
    simp at h2
    exact h2.symm
  · intro h
    unfold lineL
    rw [hw, h, ← hl]
    exact join_split 32 s
theorem run_make7 (w : World) : Sem.run Tryd.prog (Instr.makeSlice 46 (.int .i64 7) (.int .i64 7)) w = .ok (.slice (some ⟨w.heap.size, 0, none⟩) 7 7) (w.alloc (.cells #[.int .i64 0, .int .i64 0, .int .i64 0, .int .i64 0, .int .i64 0, .int .i64 0, .int .i64 0] 3)) :=
  run_make_list (P := Tryd.prog) w 46 3 (.int .i64 0) 8 Tryd.underlying46 (by kernel_rfl) rfl 7 (by omega) (by omega)

set_option maxRecDepth 100000 in
set_option maxHeartbeats 4000000 in
theorem rparse_any (s : List UInt8) (hl : s.length ≤ 1000000) (w : World) : Calls Tryd.prog 12 #[.string (toBA s)] w (ParseEnd s w) := by
  obtain ⟨W1, hW1⟩ : ∃ W1, W1 = w.alloc (.cells #[.int .i64 0, .int .i64 0, .int .i64 0, .int .i64 0, .int .i64 0, .int .i64 0, .int .i64 0] 24) := ⟨_, rfl⟩
  have hO : Only (fun _ => False) w W1 := by rw [hW1]; exact (Only.refl _ w).alloc _
  have h0 : W1.heap[w.heap.size]? = some (.cells (nrow (fun _ => 0)).toArray 24 (0, 0)) := by rw [hW1]; exact heap_new_at _ _ rfl
  have hW := Lib.hid (split_any s 32 hl W1)
  have hO' := Lib.hid hO
  have h0' := Lib.hid h0
  have hW1' := Lib.hid hW1
  have hno := Lib.hid (fun (V : World) (hV : Only (fun _ => False) W1 V) (hn : ¬ okW s) => show (st7 V w.heap.size (.int .i64 0) (.int .i64 0) (.int .i64 0) (.int .i64 0) (.int .i64 0) (.int .i64 0) (.int .i64 0)).heap[w.heap.size]? = some (.cells (nrow (fun _ => 0)).toArray 24 (0, 0)) ∧ ParseEnd s w (.returned (.tuple #[.agg #[.int .i64 0, .int .i64 0, .int .i64 0, .int .i64 0, .int .i64 0, .int .i64 0, .int .i64 0], .bool false])) (st7 V w.heap.size (.int .i64 0) (.int .i64 0) (.int .i64 0) (.int .i64 0) (.int .i64 0) (.int .i64 0) (.int .i64 0)) from
    ⟨st7_row (hV.heap h0 (fun h => h)) _ _ _ _ _ _ _, by rw [parseO_no hn]; rfl, (hO.trans' hV).trans (st7_only _ _ _ _ _ _ _ _ _) (fun k hk e => by omega)⟩)
  obtain ⟨S, hS⟩ : ∃ S, S = toBA s := ⟨_, rfl⟩
  rw [← hS] at hW ⊢
  have hS' := Lib.hid hS
  clear hS hW1 hO h0
  go_enter Tryd.func12, Tryd.ntmps12
  go_wp2_with fail
  rw [← hW1'.out]
  refine hW.out.mono ?_
  rintro e w2 ⟨p, cap, hh, rfl, hWn, hnew, hO2⟩
  have hWin := Lib.hid hWn
  have hO2' := Lib.hid hO2
  obtain ⟨m, hm⟩ : ∃ m, m = (splitL 32 s).length := ⟨_, rfl⟩
  have hcnt := split_count 32 s
  rw [← hm] at hWin hcnt ⊢
  have hm' := Lib.hid hm
  clear hm hWn hnew hO2
  by_cases h7 : m = 7
  · have h7' := Lib.hid (show (splitL 32 s).length = 7 by rw [← hm'.out]; exact h7)
    subst h7
    have hmk := run_make7
    obtain ⟨g, off, cp, hgh, hv, -, -, hgl, hgc, -⟩ := hWin.out.at_ (by omega)
    cases hv
    have hgc' := Lib.hid (fun (j : Nat) (hj : j < 7) => show w2.cell? ⟨g, off + j, none⟩ = some (.string (toBA (wd s j))) from hgc j _ (by
      rw [List.getElem?_map, words_list h7'.out]
      match j, hj with
      | 0, _ | 1, _ | 2, _ | 3, _ | 4, _ | 5, _ | 6, _ => rfl))
    have hgl' := Lib.hid hgl
    have hO3 := Lib.hid (hO2'.out.alloc (.cells #[.int .i64 0, .int .i64 0, .int .i64 0, .int .i64 0, .int .i64 0, .int .i64 0, .int .i64 0] 3))
    have hO23 := Lib.hid ((Only.refl (fun _ => False) w2).alloc (.cells #[.int .i64 0, .int .i64 0, .int .i64 0, .int .i64 0, .int .i64 0, .int .i64 0, .int .i64 0] 3))
    have hB7 := Lib.hid (heap_new_at w2 (.cells (nrow (fun _ => 0)).toArray 3) rfl)
    have hs3 := Lib.hid hO2'.out.size
    clear hgc
    go_wp2
    generalize hW3 : w2.alloc (.cells #[.int .i64 0, .int .i64 0, .int .i64 0, .int .i64 0, .int .i64 0, .int .i64 0, .int .i64 0] 3) = W3 at hO3 hO23
    have hB7' := Lib.hid (show W3.heap[w2.heap.size]? = some (.cells (nrow (fun _ => 0)).toArray 3 (0, 0)) by rw [← hW3]; exact hB7.out)
    clear hW3 hB7 hmk
    go_loopw [22] (fun i wr => ∃ (k : Nat) (n : Nat → Int), k ≤ 7 ∧ i = .int .i64 k ∧ wr.heap[w2.heap.size]? = some (.cells (nrow n).toArray 3 (0, 0)) ∧ (∀ j, j < k → j ≠ 1 → numO (wd s j) = some (n j)) ∧ Only (fun x => x = w2.heap.size) W3 wr) (fun i _ => 7 - (intOf i).toNat)
    case atStart => exact ⟨0, fun _ => 0, Nat.zero_le _, rfl, hB7'.out, (fun j hj => by omega), Only.refl _ _⟩
    case round =>
      obtain ⟨k, n, hk, rfl, hrow, hnum, hOr⟩ := hrel
      obtain ⟨ws, hws⟩ : ∃ ws : World, ws = wr := ⟨_, rfl⟩
      subst hws
      have hOw := Lib.hid (show Only (fun _ => False) W1 ws from hO3.out.trans hOr (fun x hx e => by have := hs3.out; omega))
      have hO2w := Lib.hid (show Only (fun _ => False) w2 ws from hO23.out.trans hOr (fun x hx e => by omega))
      have hz := Lib.hid (hOw.out.heap h0'.out (fun h => h))
      have hrow' := Lib.hid hrow
      have hnum' := Lib.hid hnum
      have hOr' := Lib.hid hOr
      clear hrow hnum hOr
      by_cases hk7 : k < 7
      · have hk7' : (k : Int) < 7 := by omega
        have hk0 : (0 : Int) ≤ (k : Int) := by omega
        by_cases hk1 : k = 1
        · have hk1' : ((k : Int) == 1) = true := by rw [beq_iff_eq]; omega
          have hk2 := Lib.hid hk1
          clear hk1
          go_wp2
          go_roundw
          case rel => exact ⟨k + 1, n, by omega, by go_num, hrow'.out, (fun j hj hj1 => hnum'.out j (by have := hk2.out; omega) hj1), hOr'.out⟩
          case measure => simp [intOf]; omega
        · have hk1' : ((k : Int) == 1) = false := by rw [beq_eq_false_iff_ne]; omega
          have hN := Lib.hid (rvalue_any (wd s k) (Nat.le_trans (wd_len s k) hl) ws)
          have q0 := hO2w.out.cell (hgc'.out k hk7) (fun h => h)
          have hgw := Nat.lt_of_lt_of_le hgl'.out hO2w.out.size
          obtain ⟨X, hX⟩ : ∃ X, X = toBA (wd s k) := ⟨_, rfl⟩
          rw [← hX] at q0 hN
          clear hX
          unfold NumEnd at hN
          cases hnk : numO (wd s k) with
          | none =>
            have hn7 := Lib.hid (show ¬ okW s from fun h => by
              have := h.2.2 k hk7 hk1
              rw [hnk] at this
              cases this)
            rw [hnk] at hN
            clear hnk
            go_wp2_with fail
            refine hN.out.mono ?_
            rintro e w5 ⟨m, rfl, -, hO5⟩
            have hO6 := Lib.hid (hOw.out.trans' hO5)
            have hz := Lib.hid (hO6.out.heap h0'.out (fun h => h))
            have hzl := row_lt hz.out
            have z0 := row_free hz.out 0
            have z1 := row_free hz.out 1
            have z2 := row_free hz.out 2
            have z3 := row_free hz.out 3
            have z4 := row_free hz.out 4
            have z5 := row_free hz.out 5
            have z6 := row_free hz.out 6
            have y0 := row_cell hz.out (i := 0) rfl
            have y1 := row_cell hz.out (i := 1) rfl
            have y2 := row_cell hz.out (i := 2) rfl
            have y3 := row_cell hz.out (i := 3) rfl
            have y4 := row_cell hz.out (i := 4) rfl
            have y5 := row_cell hz.out (i := 5) rfl
            have y6 := row_cell hz.out (i := 6) rfl
            clear hO5
            go_wp2
            change bodyPost _ _ _ _ _ (st7 w5 w.heap.size (.int .i64 0) (.int .i64 0) (.int .i64 0) (.int .i64 0) (.int .i64 0) (.int .i64 0) (.int .i64 0))
            obtain ⟨hv1, hv2⟩ := hno.out w5 hO6.out hn7.out
            generalize st7 w5 w.heap.size (.int .i64 0) (.int .i64 0) (.int .i64 0) (.int .i64 0) (.int .i64 0) (.int .i64 0) (.int .i64 0) = V2 at hv1 hv2 ⊢
            have r0 := row_cell hv1 (i := 0) rfl
            have r1 := row_cell hv1 (i := 1) rfl
            have r2 := row_cell hv1 (i := 2) rfl
            have r3 := row_cell hv1 (i := 3) rfl
            have r4 := row_cell hv1 (i := 4) rfl
            have r5 := row_cell hv1 (i := 5) rfl
            have r6 := row_cell hv1 (i := 6) rfl
            exact bodyPost_ret (v := .tuple #[.agg #[.int .i64 0, .int .i64 0, .int .i64 0, .int .i64 0, .int .i64 0, .int .i64 0, .int .i64 0], .bool false]) (by simp [results, Tryd.results12, go_sem, r0, r1, r2, r3, r4, r5, r6]) rfl hv2
          | some v =>
            rw [hnk] at hN
            have hnk' := Lib.hid hnk
            clear hnk
            go_wp2_with fail
            refine hN.out.mono ?_
            rintro e w5 ⟨m, rfl, hm, hO5⟩
            obtain rfl : m = v := hm v rfl
            have hrow5 := hO5.heap hrow'.out (fun h => h)
            have hl5 := row_lt hrow5
            have f5 := row_free hrow5 k
            have c5 : w5.cell? ⟨w2.heap.size, k, none⟩ = some (.int .i64 (n k)) := row_cell hrow5 (by
              match k, hk7 with
              | 0, _ | 1, _ | 2, _ | 3, _ | 4, _ | 5, _ | 6, _ => rfl)
            have hnew := row_set hrow5 k (.int .i64 m)
            rw [nrow_set n hk7] at hnew
            have hnew' := Lib.hid hnew
            have hO6 := Lib.hid ((hOr'.out.trans hO5 (fun _ _ h => h.elim)).trans (only_set w5 w2.heap.size k (.int .i64 m)) (fun _ _ h => h))
            clear hO5 hrow5 hm hnew
            go_wp2
            go_roundw
            case rel =>
              refine ⟨k + 1, upd n k m, by omega, by go_num, hnew'.out, fun j hj hj1 => ?_, hO6.out⟩
              unfold upd
              by_cases hjk : j = k
              · rw [if_pos hjk, hjk]
                exact hnk'.out
              · rw [if_neg hjk]
                exact hnum'.out j (by omega) hj1
            case measure => simp [intOf]; omega
      · have hk7i : ¬ (k : Int) < 7 := by omega
        have hnum' := Lib.hid (show ∀ j, j < 7 → j ≠ 1 → numO (wd s j) = some (n j) from fun j h1 h2 => hnum'.out j (by omega) h2)
        clear hz
        have hfit := Lib.hid (fun (j : Nat) (h1 : j < 7) (h2 : j ≠ 1) => (numO_some (hnum'.out j h1 h2)).1)
        have hwr := Lib.hid hrow'.out
        go_wp2
        go_loopw [9] (fun i wr => ∃ k : Nat, 1 ≤ k ∧ k ≤ 9 ∧ i = .int .i64 k ∧ (∀ j, 1 ≤ j → j < k → tname j ≠ wd s 1) ∧ Only (fun _ => False) ws wr) (fun i _ => 9 - (intOf i).toNat)
        case atStart => exact ⟨1, Nat.le_refl _, by omega, rfl, (fun j h1 h2 => by omega), Only.refl _ _⟩
        case round =>
          obtain ⟨kk, hk1, hk9, rfl, hnot, hOk⟩ := hrel
          obtain ⟨wt, hwt⟩ : ∃ wt : World, wt = wr := ⟨_, rfl⟩
          subst hwt
          have hOt := Lib.hid (hOw.out.trans' hOk)
          have hOk' := Lib.hid hOk
          have hnot' := Lib.hid hnot
          have hrow := hOk.heap hrow'.out (fun h => h)
          clear hOk hnot
          by_cases hk8 : kk ≤ 8
          · have hk8' : (kk : Int) ≤ 8 := by omega
            have x0 := row_cell hrow (i := 0) rfl
            have x2 := row_cell hrow (i := 2) rfl
            have x3 := row_cell hrow (i := 3) rfl
            have x4 := row_cell hrow (i := 4) rfl
            have x5 := row_cell hrow (i := 5) rfl
            have x6 := row_cell hrow (i := 6) rfl
            have hxl := row_lt hrow
            have hln := Lib.hid (fun W => rline_any W ⟨n 0, kk, n 2, n 3, n 4, n 5, n 6⟩ ⟨hfit.out 0 (by omega) (by omega), (show fitI (kk : Int) from by unfold fitI; omega), hfit.out 2 (by omega) (by omega), hfit.out 3 (by omega) (by omega), hfit.out 4 (by omega) (by omega), hfit.out 5 (by omega) (by omega), hfit.out 6 (by omega) (by omega)⟩)
            have hiff := Lib.hid (line_iff h7'.out hnum'.out (k := kk) (by omega))
            have hok : okK (kk : Int) = true := decide_eq_true (by omega)
            unfold LineEnd RecV.val at hln
            dsimp only at hln
            simp only [hok, if_true] at hln
            clear hok hrow
            go_upto_region 17 with fail
            go_region_held3 (fun w' => w'.cell? ⟨w2.heap.size, 0, none⟩ = some (.int .i64 (n 0)) ∧ w'.cell? ⟨w2.heap.size, 2, none⟩ = some (.int .i64 (n 2)) ∧ w'.cell? ⟨w2.heap.size, 3, none⟩ = some (.int .i64 (n 3)) ∧ w'.cell? ⟨w2.heap.size, 4, none⟩ = some (.int .i64 (n 4)) ∧ w'.cell? ⟨w2.heap.size, 5, none⟩ = some (.int .i64 (n 5)) ∧ w'.cell? ⟨w2.heap.size, 6, none⟩ = some (.int .i64 (n 6))) (go_keep) (fail)
            have hO5 : Only (fun _ => False) wt ((wt.alloc (.cells #[.int .i64 (n 0), .int .i64 kk, .int .i64 (n 2), .int .i64 (n 3), .int .i64 (n 4), .int .i64 (n 5), .int .i64 (n 6)] 24)).drew) := ((Only.refl _ wt).alloc _).drew
            have hr5 : ((wt.alloc (.cells #[.int .i64 (n 0), .int .i64 kk, .int .i64 (n 2), .int .i64 (n 3), .int .i64 (n 4), .int .i64 (n 5), .int .i64 (n 6)] 24)).drew).heap[wt.heap.size]? = some (.cells [Value.int .i64 (n 0), .int .i64 kk, .int .i64 (n 2), .int .i64 (n 3), .int .i64 (n 4), .int .i64 (n 5), .int .i64 (n 6)].toArray 24 (0, 0)) := heap_new_at wt _ rfl
            generalize (wt.alloc (.cells #[.int .i64 (n 0), .int .i64 kk, .int .i64 (n 2), .int .i64 (n 3), .int .i64 (n 4), .int .i64 (n 5), .int .i64 (n 6)] 24)).drew = W5 at hO5 hr5 ⊢
            have v0 := row_cell hr5 (i := 0) rfl
            have v1 := row_cell hr5 (i := 1) rfl
            have v2 := row_cell hr5 (i := 2) rfl
            have v3 := row_cell hr5 (i := 3) rfl
            have v4 := row_cell hr5 (i := 4) rfl
            have v5 := row_cell hr5 (i := 5) rfl
            have v6 := row_cell hr5 (i := 6) rfl
            have hvl := row_lt hr5
            have hr5' := Lib.hid hr5
            have hO5' := Lib.hid hO5
            clear x0 x2 x3 x4 x5 x6 hxl hr5 hO5
            go_wp2_with fail
            refine (hln.out W5).mono ?_
            rintro e W6 ⟨rfl, hO6⟩
            have hO6' := Lib.hid hO6
            have hr6 := hO6.heap hr5'.out (fun h => h)
            replace v0 := row_cell hr6 (i := 0) rfl
            replace v1 := row_cell hr6 (i := 1) rfl
            replace v2 := row_cell hr6 (i := 2) rfl
            replace v3 := row_cell hr6 (i := 3) rfl
            replace v4 := row_cell hr6 (i := 4) rfl
            replace v5 := row_cell hr6 (i := 5) rfl
            replace v6 := row_cell hr6 (i := 6) rfl
            replace hvl := row_lt hr6
            have hbq : ((toBA (lineL ⟨n 0, kk, n 2, n 3, n 4, n 5, n 6⟩)).toList == S.toList) = decide (tname kk = wd s 1) := by
              rw [hS'.out, beq_toBA]
              exact decide_eq_decide.2 hiff.out
            obtain ⟨L, hL⟩ : ∃ L, L = toBA (lineL ⟨n 0, kk, n 2, n 3, n 4, n 5, n 6⟩) := ⟨_, rfl⟩
            rw [← hL] at hbq ⊢
            have hOW6 := Lib.hid ((hOt.out.trans' hO5'.out).trans' hO6)
            have hOs6 := Lib.hid ((hOk'.out.trans' hO5'.out).trans' hO6)
            clear hL hO6 hr6
            by_cases htn : tname kk = wd s 1
            · rw [decide_eq_true htn] at hbq
              have hres := Lib.hid (parseO_yes h7'.out (kindO_is hk1 (by omega) htn) hnum'.out)
              have hz := Lib.hid (hOW6.out.heap h0'.out (fun h => h))
              have hzl := row_lt hz.out
              have z0 := row_free hz.out 0
              have z1 := row_free hz.out 1
              have z2 := row_free hz.out 2
              have z3 := row_free hz.out 3
              have z4 := row_free hz.out 4
              have z5 := row_free hz.out 5
              have z6 := row_free hz.out 6
              have y0 := row_cell hz.out (i := 0) rfl
              have y1 := row_cell hz.out (i := 1) rfl
              have y2 := row_cell hz.out (i := 2) rfl
              have y3 := row_cell hz.out (i := 3) rfl
              have y4 := row_cell hz.out (i := 4) rfl
              have y5 := row_cell hz.out (i := 5) rfl
              have y6 := row_cell hz.out (i := 6) rfl
              clear htn
              go_wp2
              change bodyPost _ _ _ _ _ (st7 W6 w.heap.size (.int .i64 (n 0)) (.int .i64 kk) (.int .i64 (n 2)) (.int .i64 (n 3)) (.int .i64 (n 4)) (.int .i64 (n 5)) (.int .i64 (n 6)))
              have hv1 := st7_row hz.out (.int .i64 (n 0)) (.int .i64 kk) (.int .i64 (n 2)) (.int .i64 (n 3)) (.int .i64 (n 4)) (.int .i64 (n 5)) (.int .i64 (n 6))
              have o7 := st7_only W6 w.heap.size (.int .i64 (n 0)) (.int .i64 kk) (.int .i64 (n 2)) (.int .i64 (n 3)) (.int .i64 (n 4)) (.int .i64 (n 5)) (.int .i64 (n 6))
              generalize st7 W6 w.heap.size (.int .i64 (n 0)) (.int .i64 kk) (.int .i64 (n 2)) (.int .i64 (n 3)) (.int .i64 (n 4)) (.int .i64 (n 5)) (.int .i64 (n 6)) = V2 at hv1 o7 ⊢
              have r0 := row_cell hv1 (i := 0) rfl
              have r1 := row_cell hv1 (i := 1) rfl
              have r2 := row_cell hv1 (i := 2) rfl
              have r3 := row_cell hv1 (i := 3) rfl
              have r4 := row_cell hv1 (i := 4) rfl
              have r5 := row_cell hv1 (i := 5) rfl
              have r6 := row_cell hv1 (i := 6) rfl
              refine bodyPost_ret (v := .tuple #[.agg #[.int .i64 (n 0), .int .i64 kk, .int .i64 (n 2), .int .i64 (n 3), .int .i64 (n 4), .int .i64 (n 5), .int .i64 (n 6)], .bool true]) (by simp [results, Tryd.results12, go_sem, r0, r1, r2, r3, r4, r5, r6]) rfl ?_
              refine ⟨?_, (hO'.out.trans' hOW6.out).trans o7 (fun k hk e => by omega)⟩
              rw [hres.out]
              rfl
            · rw [decide_eq_false htn] at hbq
              have hnx := Lib.hid (show ∀ j, 1 ≤ j → j < kk + 1 → tname j ≠ wd s 1 from fun j h1 h2 => by
                by_cases hj : j = kk
                · rw [hj]
                  exact htn
                · exact hnot'.out j h1 (by omega))
              clear htn v0 v1 v2 v3 v4 v5 v6
              go_wp2
              go_roundw
              case rel => exact ⟨kk + 1, by omega, by omega, by go_num, hnx.out, hOs6.out⟩
              case measure => simp [intOf]; omega
          · obtain rfl : kk = 9 := by omega
            have hn7 := Lib.hid (show ¬ okW s from fun h => by
              cases hk : kindO (wd s 1) 9 with
              | none =>
                have := h.2.1
                rw [hk] at this
                cases this
              | some j =>
                obtain ⟨h1, h2, h3⟩ := kindO_some hk
                exact hnot'.out j h1 h2 h3)
            have hz := Lib.hid (hOt.out.heap h0'.out (fun h => h))
            have hzl := row_lt hz.out
            have z0 := row_free hz.out 0
            have z1 := row_free hz.out 1
            have z2 := row_free hz.out 2
            have z3 := row_free hz.out 3
            have z4 := row_free hz.out 4
            have z5 := row_free hz.out 5
            have z6 := row_free hz.out 6
            have y0 := row_cell hz.out (i := 0) rfl
            have y1 := row_cell hz.out (i := 1) rfl
            have y2 := row_cell hz.out (i := 2) rfl
            have y3 := row_cell hz.out (i := 3) rfl
            have y4 := row_cell hz.out (i := 4) rfl
            have y5 := row_cell hz.out (i := 5) rfl
            have y6 := row_cell hz.out (i := 6) rfl
            clear hrow
            go_wp2
            change bodyPost _ _ _ _ _ (st7 wt w.heap.size (.int .i64 0) (.int .i64 0) (.int .i64 0) (.int .i64 0) (.int .i64 0) (.int .i64 0) (.int .i64 0))
            obtain ⟨hv1, hv2⟩ := hno.out wt hOt.out hn7.out
            generalize st7 wt w.heap.size (.int .i64 0) (.int .i64 0) (.int .i64 0) (.int .i64 0) (.int .i64 0) (.int .i64 0) (.int .i64 0) = V2 at hv1 hv2 ⊢
            have r0 := row_cell hv1 (i := 0) rfl
            have r1 := row_cell hv1 (i := 1) rfl
            have r2 := row_cell hv1 (i := 2) rfl
            have r3 := row_cell hv1 (i := 3) rfl
            have r4 := row_cell hv1 (i := 4) rfl
            have r5 := row_cell hv1 (i := 5) rfl
            have r6 := row_cell hv1 (i := 6) rfl
            exact bodyPost_ret (v := .tuple #[.agg #[.int .i64 0, .int .i64 0, .int .i64 0, .int .i64 0, .int .i64 0, .int .i64 0, .int .i64 0], .bool false]) (by simp [results, Tryd.results12, go_sem, r0, r1, r2, r3, r4, r5, r6]) rfl hv2
  · have h7i : ((m : Int) != 7) = true := by rw [bne_iff_ne]; omega
    have hn7 := Lib.hid (show ¬ okW s from fun h => h7 (by rw [hm'.out]; exact h.1))
    have hz := Lib.hid (hO2'.out.heap h0'.out (fun h => h))
    have hzl := row_lt hz.out
    have z0 := row_free hz.out 0
    have z1 := row_free hz.out 1
    have z2 := row_free hz.out 2
    have z3 := row_free hz.out 3
    have z4 := row_free hz.out 4
    have z5 := row_free hz.out 5
    have z6 := row_free hz.out 6
    have y0 := row_cell hz.out (i := 0) rfl
    have y1 := row_cell hz.out (i := 1) rfl
    have y2 := row_cell hz.out (i := 2) rfl
    have y3 := row_cell hz.out (i := 3) rfl
    have y4 := row_cell hz.out (i := 4) rfl
    have y5 := row_cell hz.out (i := 5) rfl
    have y6 := row_cell hz.out (i := 6) rfl
    clear h7
    go_wp2
    change bodyPost _ _ _ _ _ (st7 w2 w.heap.size (.int .i64 0) (.int .i64 0) (.int .i64 0) (.int .i64 0) (.int .i64 0) (.int .i64 0) (.int .i64 0))
    obtain ⟨hv1, hv2⟩ := hno.out w2 hO2'.out hn7.out
    generalize st7 w2 w.heap.size (.int .i64 0) (.int .i64 0) (.int .i64 0) (.int .i64 0) (.int .i64 0) (.int .i64 0) (.int .i64 0) = V2 at hv1 hv2 ⊢
    have r0 := row_cell hv1 (i := 0) rfl
    have r1 := row_cell hv1 (i := 1) rfl
    have r2 := row_cell hv1 (i := 2) rfl
    have r3 := row_cell hv1 (i := 3) rfl
    have r4 := row_cell hv1 (i := 4) rfl
    have r5 := row_cell hv1 (i := 5) rfl
    have r6 := row_cell hv1 (i := 6) rfl
    exact bodyPost_ret (v := .tuple #[.agg #[.int .i64 0, .int .i64 0, .int .i64 0, .int .i64 0, .int .i64 0, .int .i64 0, .int .i64 0], .bool false]) (by simp [results, Tryd.results12, go_sem, r0, r1, r2, r3, r4, r5, r6]) rfl hv2
end Go.Proofs.YthippdgmbfaijaaDoor
