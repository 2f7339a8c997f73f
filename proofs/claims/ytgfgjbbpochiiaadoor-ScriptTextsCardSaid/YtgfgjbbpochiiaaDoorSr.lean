/- An event of its line: the document's Parse. -/
import Derived.Test.YtgfgjbbpochiiaaDoorSq
import Derived.Deep.RegionHeld3
namespace Go.Proofs.YtgfgjbbpochiiaaDoor
open Go Go.RowKit

theorem split_isE {s : List UInt8} {e : EvV} (h : isE s e) : splitL 32 s = wordsE e := by rw [← h.2]; exact split_lineE h.1
theorem ref_bad {s x : List UInt8} {j : Nat} (hx : (splitL 32 s)[j]? = some x) (hj : j ≠ 1) (hn : numS x = none) : evO s = none := evO_no fun e he => by
  rw [split_isE he] at hx
  obtain ⟨t, h1, h2, h3⟩ := words_del he.1
  have : ∃ y ∈ (figsE e).take (knums e.k.toNat), x = Lib.itoa y := by
    rw [h1] at hx
    have hm : x ∈ Lib.itoa e.at_ :: t := by
      match j, hx, hj with
      | 0, hx, _ => cases hx; simp
      | 1, _, hj => exact absurd rfl hj
      | j + 2, hx, _ => exact List.mem_cons_of_mem _ (List.mem_of_getElem? hx)
    rw [h2, List.mem_map] at hm
    obtain ⟨y, hy, rfl⟩ := hm
    exact ⟨y, hy, rfl⟩
  obtain ⟨y, hy, rfl⟩ := this
  rw [numS_itoa (h3 y hy)] at hn
  cases hn
theorem cand {s : List UInt8} {e : EvV} {n : Nat → Int} {k : Nat} (h : isE s e) (hk : k = (splitL 32 s).length ∨ k = 5) (hk5 : k ≤ (splitL 32 s).length) (hv : ∀ (j : Nat) x, j < k → j ≠ 1 → (splitL 32 s)[j]? = some x → numS x = some (n j)) (hz : ∀ j, k ≤ j → n j = 0) : e = ⟨n 0, e.k, n 2, n 3, n 4⟩ := by
  have hs := split_isE h
  rw [hs] at hk hk5 hv
  obtain ⟨h1, h2, h3, h4⟩ := h.1
  by_cases h5 : e.k = 5
  · rw [if_pos h5] at h4
    rw [wordsE_five h5] at hk hk5 hv
    have hk' : k = 5 := by rcases hk with hk | hk <;> simpa using hk
    have a0 := hv 0 _ (by omega) (by omega) rfl
    have a2 := hv 2 _ (by omega) (by omega) rfl
    have a3 := hv 3 _ (by omega) (by omega) rfl
    have a4 := hv 4 _ (by omega) (by omega) rfl
    rw [numS_itoa h2] at a0
    rw [numS_itoa h3] at a2
    rw [numS_itoa h4.1] at a3
    rw [numS_itoa h4.2] at a4
    exact EvV.ext' ⟨Option.some.inj a0, rfl, Option.some.inj a2, Option.some.inj a3, Option.some.inj a4⟩
  · rw [if_neg h5] at h4
    rw [wordsE_three h5] at hk hk5 hv
    have hk' : k = 3 := by
      simp at hk5
      rcases hk with hk | hk
      · simpa using hk
      · omega
    have a0 := hv 0 _ (by omega) (by omega) rfl
    have a2 := hv 2 _ (by omega) (by omega) rfl
    rw [numS_itoa h2] at a0
    rw [numS_itoa h3] at a2
    exact EvV.ext' ⟨Option.some.inj a0, rfl, Option.some.inj a2, h4.1.trans (hz 3 (by omega)).symm, h4.2.trans (hz 4 (by omega)).symm⟩
def nrow5 (n : Nat → Int) : List Value := [.int .i64 (n 0), .int .i64 (n 1), .int .i64 (n 2), .int .i64 (n 3), .int .i64 (n 4)]
theorem nrow5_set (n : Nat → Int) {k : Nat} (hk : k < 5) (v : Int) : (nrow5 n).set k (.int .i64 v) = nrow5 (upd n k v) := by
  match k, hk with
  | 0, _ | 1, _ | 2, _ | 3, _ | 4, _ => simp [nrow5, upd]
theorem run_make5 (w : World) : Sem.run Tryd.prog (Instr.makeSlice 45 (.int .i64 5) (.int .i64 5)) w = .ok (.slice (some ⟨w.heap.size, 0, none⟩) 5 5) (w.alloc (.cells #[.int .i64 0, .int .i64 0, .int .i64 0, .int .i64 0, .int .i64 0] 3)) :=
  run_make_list (P := Tryd.prog) w 45 3 (.int .i64 0) 8 Tryd.underlying45 (by kernel_rfl) rfl 5 (by omega) (by omega)

set_option maxRecDepth 100000 in
set_option maxHeartbeats 4000000 in
theorem rparse_any (s : List UInt8) (hl : s.length ≤ 1000000) (w : World) : Calls Tryd.prog 12 #[.string (toBA s)] w (ParseEnd s w) := by
  obtain ⟨W1, hW1⟩ : ∃ W1, W1 = w.alloc (.cells #[.int .i64 0, .int .i64 0, .int .i64 0, .int .i64 0, .int .i64 0] 23) := ⟨_, rfl⟩
  have hO : Only (fun _ => False) w W1 := by rw [hW1]; exact (Only.refl _ w).alloc _
  have h0 : W1.heap[w.heap.size]? = some (.cells [Value.int .i64 0, .int .i64 0, .int .i64 0, .int .i64 0, .int .i64 0].toArray 23 (0, 0)) := by rw [hW1]; exact heap_new_at _ _ rfl
  have hW := Lib.hid (split_any s 32 hl W1)
  have hO' := Lib.hid hO
  have h0' := Lib.hid h0
  have hW1' := Lib.hid hW1
  have hno := Lib.hid (fun (V : World) (hV : Only (fun _ => False) W1 V) (hn : evO s = none) => show (st5 V w.heap.size (.int .i64 0) (.int .i64 0) (.int .i64 0) (.int .i64 0) (.int .i64 0)).heap[w.heap.size]? = some (.cells [Value.int .i64 0, .int .i64 0, .int .i64 0, .int .i64 0, .int .i64 0].toArray 23 (0, 0)) ∧ ParseEnd s w (.returned (.tuple #[.agg #[.int .i64 0, .int .i64 0, .int .i64 0, .int .i64 0, .int .i64 0], .bool false])) (st5 V w.heap.size (.int .i64 0) (.int .i64 0) (.int .i64 0) (.int .i64 0) (.int .i64 0)) from
    ⟨st5_row (hV.heap h0 (fun h => h)) _ _ _ _ _, ⟨by rw [hn]; rfl, (hO.trans' hV).trans (st5_only _ _ _ _ _ _ _) (fun k hk e => by omega)⟩⟩)
  obtain ⟨S, hS⟩ : ∃ S, S = toBA s := ⟨_, rfl⟩
  rw [← hS] at hW ⊢
  have hS' := Lib.hid hS
  have hpos := List.length_pos_iff.2 (splitL_ne 32 s)
  clear hS hW1 hO h0
  go_enter Tryd.func12, Tryd.ntmps12
  go_wp2_with fail
  rw [← hW1'.out]
  refine hW.out.mono ?_
  rintro e w2 ⟨p, cap, hh, rfl, hWn, hnew, hO2⟩
  have hWin := Lib.hid hWn
  have hO2' := Lib.hid hO2
  obtain ⟨m, hm⟩ : ∃ m, m = (splitL 32 s).length := ⟨_, rfl⟩
  have hcnt := split_count 32 s
  rw [← hm] at hWin hcnt hpos ⊢
  have hm' := Lib.hid hm
  clear hm hWn hnew hO2
  have hmk := run_make5 w2
  obtain ⟨g, off, cp, hgh, hv, hmc, hcm, hgl, hgc, -⟩ := hWin.out.at_ (by omega)
  cases hv
  have hgc' := Lib.hid (fun (j : Nat) (x : List UInt8) (hj : (splitL 32 s)[j]? = some x) => show w2.cell? ⟨g, off + j, none⟩ = some (.string (toBA x)) from hgc j _ (by
    rw [List.getElem?_map, hj]
    rfl))
  have hgl' := Lib.hid hgl
  have hplen := Lib.hid (split_len 32 s)
  obtain ⟨W3, hW3⟩ : ∃ W3, W3 = w2.alloc (.cells #[.int .i64 0, .int .i64 0, .int .i64 0, .int .i64 0, .int .i64 0] 3) := ⟨_, rfl⟩
  have hO3 := Lib.hid (show Only (fun _ => False) W1 W3 from by rw [hW3]; exact hO2'.out.alloc _)
  have hO23 := Lib.hid (show Only (fun _ => False) w2 W3 from by rw [hW3]; exact (Only.refl (fun _ => False) w2).alloc _)
  have hB7' := Lib.hid (show W3.heap[w2.heap.size]? = some (.cells (nrow5 (fun _ => 0)).toArray 3 (0, 0)) by rw [hW3]; exact heap_new_at _ _ rfl)
  have hs3 := Lib.hid hO2'.out.size
  rw [← hW3] at hmk
  clear hgc hW3
  go_wp2
  go_loopw [6] (fun i wr => ∃ (k : Nat) (n : Nat → Int), k ≤ m ∧ k ≤ 5 ∧ i = .int .i64 k ∧ wr.heap[w2.heap.size]? = some (.cells (nrow5 n).toArray 3 (0, 0)) ∧ (∀ (j : Nat) x, j < k → j ≠ 1 → (splitL 32 s)[j]? = some x → numS x = some (n j)) ∧ (∀ j, k ≤ j → n j = 0) ∧ Only (fun x => x = w2.heap.size) W3 wr) (fun i _ => 5 - (intOf i).toNat)
  case atStart => exact ⟨0, fun _ => 0, Nat.zero_le _, by omega, rfl, hB7'.out, (fun j x hj => by omega), (fun _ _ => rfl), Only.refl _ _⟩
  case round =>
    obtain ⟨k, n, hk, hk5, rfl, hrow, hnum, hnz, hOr⟩ := hrel
    obtain ⟨ws, hws⟩ : ∃ ws : World, ws = wr := ⟨_, rfl⟩
    subst hws
    have hOw := Lib.hid (show Only (fun _ => False) W1 ws from hO3.out.trans hOr (fun x hx e => by have := hs3.out; omega))
    have hO2w := Lib.hid (show Only (fun _ => False) w2 ws from hO23.out.trans hOr (fun x hx e => by omega))
    have hrow' := Lib.hid hrow
    have hnum' := Lib.hid hnum
    have hnz' := Lib.hid hnz
    have hOr' := Lib.hid hOr
    clear hrow hnum hnz hOr hmk
    by_cases hkm : k < m ∧ k < 5
    · obtain ⟨hkm, hk5s⟩ := hkm
      have hkm' : (k : Int) < (m : Int) := by omega
      have hk5' : (k : Int) < 5 := by omega
      have hk0 : (0 : Int) ≤ (k : Int) := by omega
      obtain ⟨x, hx⟩ : ∃ x, (splitL 32 s)[k]? = some x := ⟨(splitL 32 s)[k]'(by have := hm'.out; omega), List.getElem?_eq_getElem _⟩
      have hN := Lib.hid (value_any x (Nat.le_trans (hplen.out x (List.mem_of_getElem? hx)) hl) ws)
      have q0 := hO2w.out.cell (hgc'.out k x hx) (fun h => h)
      have hgw := Nat.lt_of_lt_of_le hgl'.out hO2w.out.size
      have hx' := Lib.hid hx
      obtain ⟨X, hX⟩ : ∃ X, X = toBA x := ⟨_, rfl⟩
      rw [← hX] at q0 hN
      clear hX hx
      unfold ValEnd at hN
      cases hnk : numS x with
      | none =>
        rw [hnk] at hN
        by_cases hk1 : k = 1
        · subst hk1
          clear hnk
          go_wp2_with fail
          refine hN.out.mono ?_
          rintro e w5 ⟨v, rfl, -, hO5⟩
          have hrow5 := hO5.heap hrow'.out (fun h => h)
          have hl5 := row_lt hrow5
          have f5 := row_free hrow5 1
          have c5 : w5.cell? ⟨w2.heap.size, 1, none⟩ = some (.int .i64 (n 1)) := row_cell hrow5 rfl
          have hnew := row_set hrow5 1 (.int .i64 v)
          rw [nrow5_set n (by omega)] at hnew
          have hnew' := Lib.hid hnew
          have hO6 := Lib.hid ((hOr'.out.trans hO5 (fun _ _ h => h.elim)).trans (only_set w5 w2.heap.size 1 (.int .i64 v)) (fun _ _ h => h))
          clear hO5 hrow5 hnew q0
          go_wp2
          go_roundw
          case rel =>
            refine ⟨2, upd n 1 v, by omega, by omega, by go_num, hnew'.out, fun j y hj hj1 hy => ?_, fun j hj => ?_, hO6.out⟩
            · unfold upd
              rw [if_neg hj1]
              exact hnum'.out j y (by omega) hj1 hy
            · unfold upd
              rw [if_neg (by omega)]
              exact hnz'.out j (by omega)
          case measure => simp [intOf]
        · have hnone := Lib.hid (ref_bad hx'.out hk1 hnk)
          have hk1' : ((k : Int) != 1) = true := by rw [bne_iff_ne]; omega
          clear hnk hk1
          go_wp2_with fail
          refine hN.out.mono ?_
          rintro e w5 ⟨v, rfl, -, hO5⟩
          have hO6 := Lib.hid (hOw.out.trans' hO5)
          have hz := Lib.hid (hO6.out.heap h0'.out (fun h => h))
          have hzl := row_lt hz.out
          have z0 := row_free hz.out 0
          have z1 := row_free hz.out 1
          have z2 := row_free hz.out 2
          have z3 := row_free hz.out 3
          have z4 := row_free hz.out 4
          have y0 := row_cell hz.out (i := 0) rfl
          have y1 := row_cell hz.out (i := 1) rfl
          have y2 := row_cell hz.out (i := 2) rfl
          have y3 := row_cell hz.out (i := 3) rfl
          have y4 := row_cell hz.out (i := 4) rfl
          clear hO5 q0
          go_wp2
          change bodyPost _ _ _ _ _ (st5 w5 w.heap.size (.int .i64 0) (.int .i64 0) (.int .i64 0) (.int .i64 0) (.int .i64 0))
          obtain ⟨hv1, hv2⟩ := hno.out w5 hO6.out hnone.out
          generalize st5 w5 w.heap.size (.int .i64 0) (.int .i64 0) (.int .i64 0) (.int .i64 0) (.int .i64 0) = V2 at hv1 hv2 ⊢
          have r0 := row_cell hv1 (i := 0) rfl
          have r1 := row_cell hv1 (i := 1) rfl
          have r2 := row_cell hv1 (i := 2) rfl
          have r3 := row_cell hv1 (i := 3) rfl
          have r4 := row_cell hv1 (i := 4) rfl
          exact bodyPost_ret (v := .tuple #[.agg #[.int .i64 0, .int .i64 0, .int .i64 0, .int .i64 0, .int .i64 0], .bool false]) (by simp [results, Tryd.results12, go_sem, r0, r1, r2, r3, r4]) rfl hv2
      | some u =>
        rw [hnk] at hN
        have hnk' := Lib.hid hnk
        clear hnk
        go_wp2_with fail
        refine hN.out.mono ?_
        rintro e w5 ⟨v, rfl, hvu, hO5⟩
        obtain rfl : v = u := hvu u rfl
        have hrow5 := hO5.heap hrow'.out (fun h => h)
        have hl5 := row_lt hrow5
        have f5 := row_free hrow5 k
        have c5 : w5.cell? ⟨w2.heap.size, k, none⟩ = some (.int .i64 (n k)) := row_cell hrow5 (by
          match k, hk5s with
          | 0, _ | 1, _ | 2, _ | 3, _ | 4, _ => rfl)
        have hnew := row_set hrow5 k (.int .i64 v)
        rw [nrow5_set n hk5s] at hnew
        have hnew' := Lib.hid hnew
        have hO6 := Lib.hid ((hOr'.out.trans hO5 (fun _ _ h => h.elim)).trans (only_set w5 w2.heap.size k (.int .i64 v)) (fun _ _ h => h))
        clear hO5 hrow5 hnew q0 hvu
        go_wp2
        go_roundw
        case rel =>
          refine ⟨k + 1, upd n k v, by omega, by omega, by go_num, hnew'.out, fun j y hj hj1 hy => ?_, fun j hj => ?_, hO6.out⟩
          · unfold upd
            by_cases hjk : j = k
            · rw [if_pos hjk]
              rw [hjk, hx'.out] at hy
              cases hy
              exact hnk'.out
            · rw [if_neg hjk]
              exact hnum'.out j y (by omega) hj1 hy
          · unfold upd
            rw [if_neg (by omega)]
            exact hnz'.out j (by omega)
        case measure => simp [intOf]; omega
    · have hend := Lib.hid (show k = (splitL 32 s).length ∨ k = 5 from by have := hm'.out; omega)
      have hcand := Lib.hid (fun (e : EvV) (he : isE s e) => cand he hend.out (by have := hm'.out; omega) hnum'.out hnz'.out)
      rcases Nat.lt_or_ge k m with hkm2 | hkm2
      · obtain rfl : k = 5 := by omega
        have hm5 : (5 : Int) < (m : Int) := by omega
        clear hkm
        have hwr := Lib.hid hrow'.out
        go_wp2
        go_loopw [9] (fun i wr => ∃ kk : Nat, 1 ≤ kk ∧ kk ≤ 6 ∧ i = .int .i64 kk ∧ (∀ j : Nat, 1 ≤ j → j < kk → ¬ isE s ⟨n 0, j, n 2, n 3, n 4⟩) ∧ Only (fun _ => False) ws wr) (fun i _ => 6 - (intOf i).toNat)
        case atStart => exact ⟨1, Nat.le_refl _, by omega, rfl, (fun j h1 h2 => by omega), Only.refl _ _⟩
        case round =>
          obtain ⟨kk, hk1, hk9, rfl, hnot, hOk⟩ := hrel
          obtain ⟨wt, hwt⟩ : ∃ wt : World, wt = wr := ⟨_, rfl⟩
          subst hwt
          have hOt := Lib.hid (hOw.out.trans' hOk)
          have hOk' := Lib.hid hOk
          have hnot' := Lib.hid hnot
          have hrow := hOk.heap hrow'.out (fun h => h)
          clear hOk hnot
          by_cases hk8 : kk ≤ 5
          · have hk8' : (kk : Int) ≤ 5 := by omega
            have x0 := row_cell hrow (i := 0) rfl
            have x2 := row_cell hrow (i := 2) rfl
            have x3 := row_cell hrow (i := 3) rfl
            have x4 := row_cell hrow (i := 4) rfl
            have hxl := row_lt hrow
            have hln := Lib.hid (fun W => rline_any W ⟨n 0, kk, n 2, n 3, n 4⟩)
            unfold LineEnd EvV.val at hln
            dsimp only at hln
            clear hrow
            go_upto_region 13 with fail
            go_region_held3 (fun w' => w'.cell? ⟨w2.heap.size, 0, none⟩ = some (.int .i64 (n 0)) ∧ w'.cell? ⟨w2.heap.size, 2, none⟩ = some (.int .i64 (n 2)) ∧ w'.cell? ⟨w2.heap.size, 3, none⟩ = some (.int .i64 (n 3)) ∧ w'.cell? ⟨w2.heap.size, 4, none⟩ = some (.int .i64 (n 4))) (go_keep) (fail)
            have hO5 : Only (fun _ => False) wt ((wt.alloc (.cells #[.int .i64 (n 0), .int .i64 kk, .int .i64 (n 2), .int .i64 (n 3), .int .i64 (n 4)] 23)).drew) := ((Only.refl _ wt).alloc _).drew
            have hr5 : ((wt.alloc (.cells #[.int .i64 (n 0), .int .i64 kk, .int .i64 (n 2), .int .i64 (n 3), .int .i64 (n 4)] 23)).drew).heap[wt.heap.size]? = some (.cells [Value.int .i64 (n 0), .int .i64 kk, .int .i64 (n 2), .int .i64 (n 3), .int .i64 (n 4)].toArray 23 (0, 0)) := heap_new_at wt _ rfl
            generalize (wt.alloc (.cells #[.int .i64 (n 0), .int .i64 kk, .int .i64 (n 2), .int .i64 (n 3), .int .i64 (n 4)] 23)).drew = W5 at hO5 hr5 ⊢
            have v0 := row_cell hr5 (i := 0) rfl
            have v1 := row_cell hr5 (i := 1) rfl
            have v2 := row_cell hr5 (i := 2) rfl
            have v3 := row_cell hr5 (i := 3) rfl
            have v4 := row_cell hr5 (i := 4) rfl
            have hvl := row_lt hr5
            have hr5' := Lib.hid hr5
            have hO5' := Lib.hid hO5
            clear x0 x2 x3 x4 hxl hr5 hO5
            by_cases hoe : okE ⟨n 0, kk, n 2, n 3, n 4⟩
            · rw [if_pos hoe, decide_eq_true hoe] at hln
              have hbq : ((toBA (lineE ⟨n 0, kk, n 2, n 3, n 4⟩)).toList == S.toList) = decide (lineE ⟨n 0, kk, n 2, n 3, n 4⟩ = s) := by
                rw [hS'.out, beq_toBA]
              have hoe' := Lib.hid hoe
              obtain ⟨L, hL⟩ : ∃ L, L = toBA (lineE ⟨n 0, kk, n 2, n 3, n 4⟩) := ⟨_, rfl⟩
              rw [← hL] at hbq hln
              clear hL hoe
              by_cases hq : lineE ⟨n 0, kk, n 2, n 3, n 4⟩ = s
              · rw [decide_eq_true hq] at hbq
                have hres := Lib.hid (evO_is ⟨hoe'.out, hq⟩)
                clear hq
                go_wp2_with fail
                refine (hln.out W5).mono ?_
                rintro e W6 ⟨rfl, hO6⟩
                have hr6 := hO6.heap hr5'.out (fun h => h)
                clear v0 v1 v2 v3 v4 hvl
                have v0 := row_cell hr6 (i := 0) rfl
                have v1 := row_cell hr6 (i := 1) rfl
                have v2 := row_cell hr6 (i := 2) rfl
                have v3 := row_cell hr6 (i := 3) rfl
                have v4 := row_cell hr6 (i := 4) rfl
                have hvl := row_lt hr6
                have hOW6 := Lib.hid ((hOt.out.trans' hO5'.out).trans' hO6)
                have hz := Lib.hid (hOW6.out.heap h0'.out (fun h => h))
                have hzl := row_lt hz.out
                have z0 := row_free hz.out 0
                have z1 := row_free hz.out 1
                have z2 := row_free hz.out 2
                have z3 := row_free hz.out 3
                have z4 := row_free hz.out 4
                have y0 := row_cell hz.out (i := 0) rfl
                have y1 := row_cell hz.out (i := 1) rfl
                have y2 := row_cell hz.out (i := 2) rfl
                have y3 := row_cell hz.out (i := 3) rfl
                have y4 := row_cell hz.out (i := 4) rfl
                clear hO6 hr6
                go_wp2
                change bodyPost _ _ _ _ _ (st5 W6 w.heap.size (.int .i64 (n 0)) (.int .i64 kk) (.int .i64 (n 2)) (.int .i64 (n 3)) (.int .i64 (n 4)))
                have hv1 := st5_row hz.out (.int .i64 (n 0)) (.int .i64 kk) (.int .i64 (n 2)) (.int .i64 (n 3)) (.int .i64 (n 4))
                have o7 := st5_only W6 w.heap.size (.int .i64 (n 0)) (.int .i64 kk) (.int .i64 (n 2)) (.int .i64 (n 3)) (.int .i64 (n 4))
                generalize st5 W6 w.heap.size (.int .i64 (n 0)) (.int .i64 kk) (.int .i64 (n 2)) (.int .i64 (n 3)) (.int .i64 (n 4)) = V2 at hv1 o7 ⊢
                have r0 := row_cell hv1 (i := 0) rfl
                have r1 := row_cell hv1 (i := 1) rfl
                have r2 := row_cell hv1 (i := 2) rfl
                have r3 := row_cell hv1 (i := 3) rfl
                have r4 := row_cell hv1 (i := 4) rfl
                refine bodyPost_ret (v := .tuple #[.agg #[.int .i64 (n 0), .int .i64 kk, .int .i64 (n 2), .int .i64 (n 3), .int .i64 (n 4)], .bool true]) (by simp [results, Tryd.results12, go_sem, r0, r1, r2, r3, r4]) rfl ?_
                refine ⟨?_, (hO'.out.trans' hOW6.out).trans o7 (fun k hk e => by omega)⟩
                rw [hres.out]
                rfl
              · rw [decide_eq_false hq] at hbq
                have hnx := Lib.hid (show ∀ j : Nat, 1 ≤ j → j < kk + 1 → ¬ isE s ⟨n 0, j, n 2, n 3, n 4⟩ from fun j h1 h2 => by
                  by_cases hj : j = kk
                  · rw [hj]
                    exact fun h => hq h.2
                  · exact hnot'.out j h1 (by omega))
                clear hq
                go_wp2_with fail
                refine (hln.out W5).mono ?_
                rintro e W6 ⟨rfl, hO6⟩
                have hOs6 := Lib.hid ((hOk'.out.trans' hO5'.out).trans' hO6)
                clear hO6 v0 v1 v2 v3 v4
                go_wp2
                go_roundw
                case rel => exact ⟨kk + 1, by omega, by omega, by go_num, hnx.out, hOs6.out⟩
                case measure => simp [intOf]; omega
            · rw [if_neg hoe, decide_eq_false hoe] at hln
              have hnx := Lib.hid (show ∀ j : Nat, 1 ≤ j → j < kk + 1 → ¬ isE s ⟨n 0, j, n 2, n 3, n 4⟩ from fun j h1 h2 => by
                by_cases hj : j = kk
                · rw [hj]
                  exact fun h => hoe h.1
                · exact hnot'.out j h1 (by omega))
              clear hoe
              go_wp2_with fail
              refine (hln.out W5).mono ?_
              rintro e W6 ⟨rfl, hO6⟩
              have hOs6 := Lib.hid ((hOk'.out.trans' hO5'.out).trans' hO6)
              clear hO6 v0 v1 v2 v3 v4
              go_wp2
              go_roundw
              case rel => exact ⟨kk + 1, by omega, by omega, by go_num, hnx.out, hOs6.out⟩
              case measure => simp [intOf]; omega
          · obtain rfl : kk = 6 := by omega
            have hnone := Lib.hid (evO_no (s := s) fun e he => by
              have h1 := hcand.out e he
              obtain ⟨j, hj⟩ : ∃ j : Nat, e.k = j := ⟨e.k.toNat, by have := he.1.1; omega⟩
              have h2 := he.1.1
              refine hnot'.out j (by omega) (by omega) ?_
              rw [hj] at h1
              rw [← h1]
              exact he)
            have hz := Lib.hid (hOt.out.heap h0'.out (fun h => h))
            have hzl := row_lt hz.out
            have z0 := row_free hz.out 0
            have z1 := row_free hz.out 1
            have z2 := row_free hz.out 2
            have z3 := row_free hz.out 3
            have z4 := row_free hz.out 4
            have y0 := row_cell hz.out (i := 0) rfl
            have y1 := row_cell hz.out (i := 1) rfl
            have y2 := row_cell hz.out (i := 2) rfl
            have y3 := row_cell hz.out (i := 3) rfl
            have y4 := row_cell hz.out (i := 4) rfl
            clear hrow
            go_wp2
            change bodyPost _ _ _ _ _ (st5 wt w.heap.size (.int .i64 0) (.int .i64 0) (.int .i64 0) (.int .i64 0) (.int .i64 0))
            obtain ⟨hv1, hv2⟩ := hno.out wt hOt.out hnone.out
            generalize st5 wt w.heap.size (.int .i64 0) (.int .i64 0) (.int .i64 0) (.int .i64 0) (.int .i64 0) = V2 at hv1 hv2 ⊢
            have r0 := row_cell hv1 (i := 0) rfl
            have r1 := row_cell hv1 (i := 1) rfl
            have r2 := row_cell hv1 (i := 2) rfl
            have r3 := row_cell hv1 (i := 3) rfl
            have r4 := row_cell hv1 (i := 4) rfl
            exact bodyPost_ret (v := .tuple #[.agg #[.int .i64 0, .int .i64 0, .int .i64 0, .int .i64 0, .int .i64 0], .bool false]) (by simp [results, Tryd.results12, go_sem, r0, r1, r2, r3, r4]) rfl hv2
      · obtain rfl : k = m := by omega
        clear hkm
        have hwr := Lib.hid hrow'.out
        go_wp2
        go_loopw [9] (fun i wr => ∃ kk : Nat, 1 ≤ kk ∧ kk ≤ 6 ∧ i = .int .i64 kk ∧ (∀ j : Nat, 1 ≤ j → j < kk → ¬ isE s ⟨n 0, j, n 2, n 3, n 4⟩) ∧ Only (fun _ => False) ws wr) (fun i _ => 6 - (intOf i).toNat)
        case atStart => exact ⟨1, Nat.le_refl _, by omega, rfl, (fun j h1 h2 => by omega), Only.refl _ _⟩
        case round =>
          obtain ⟨kk, hk1, hk9, rfl, hnot, hOk⟩ := hrel
          obtain ⟨wt, hwt⟩ : ∃ wt : World, wt = wr := ⟨_, rfl⟩
          subst hwt
          have hOt := Lib.hid (hOw.out.trans' hOk)
          have hOk' := Lib.hid hOk
          have hnot' := Lib.hid hnot
          have hrow := hOk.heap hrow'.out (fun h => h)
          clear hOk hnot
          by_cases hk8 : kk ≤ 5
          · have hk8' : (kk : Int) ≤ 5 := by omega
            have x0 := row_cell hrow (i := 0) rfl
            have x2 := row_cell hrow (i := 2) rfl
            have x3 := row_cell hrow (i := 3) rfl
            have x4 := row_cell hrow (i := 4) rfl
            have hxl := row_lt hrow
            have hln := Lib.hid (fun W => rline_any W ⟨n 0, kk, n 2, n 3, n 4⟩)
            unfold LineEnd EvV.val at hln
            dsimp only at hln
            clear hrow
            go_upto_region 13 with fail
            go_region_held3 (fun w' => w'.cell? ⟨w2.heap.size, 0, none⟩ = some (.int .i64 (n 0)) ∧ w'.cell? ⟨w2.heap.size, 2, none⟩ = some (.int .i64 (n 2)) ∧ w'.cell? ⟨w2.heap.size, 3, none⟩ = some (.int .i64 (n 3)) ∧ w'.cell? ⟨w2.heap.size, 4, none⟩ = some (.int .i64 (n 4))) (go_keep) (fail)
            have hO5 : Only (fun _ => False) wt ((wt.alloc (.cells #[.int .i64 (n 0), .int .i64 kk, .int .i64 (n 2), .int .i64 (n 3), .int .i64 (n 4)] 23)).drew) := ((Only.refl _ wt).alloc _).drew
            have hr5 : ((wt.alloc (.cells #[.int .i64 (n 0), .int .i64 kk, .int .i64 (n 2), .int .i64 (n 3), .int .i64 (n 4)] 23)).drew).heap[wt.heap.size]? = some (.cells [Value.int .i64 (n 0), .int .i64 kk, .int .i64 (n 2), .int .i64 (n 3), .int .i64 (n 4)].toArray 23 (0, 0)) := heap_new_at wt _ rfl
            generalize (wt.alloc (.cells #[.int .i64 (n 0), .int .i64 kk, .int .i64 (n 2), .int .i64 (n 3), .int .i64 (n 4)] 23)).drew = W5 at hO5 hr5 ⊢
            have v0 := row_cell hr5 (i := 0) rfl
            have v1 := row_cell hr5 (i := 1) rfl
            have v2 := row_cell hr5 (i := 2) rfl
            have v3 := row_cell hr5 (i := 3) rfl
            have v4 := row_cell hr5 (i := 4) rfl
            have hvl := row_lt hr5
            have hr5' := Lib.hid hr5
            have hO5' := Lib.hid hO5
            clear x0 x2 x3 x4 hxl hr5 hO5
            by_cases hoe : okE ⟨n 0, kk, n 2, n 3, n 4⟩
            · rw [if_pos hoe, decide_eq_true hoe] at hln
              have hbq : ((toBA (lineE ⟨n 0, kk, n 2, n 3, n 4⟩)).toList == S.toList) = decide (lineE ⟨n 0, kk, n 2, n 3, n 4⟩ = s) := by
                rw [hS'.out, beq_toBA]
              have hoe' := Lib.hid hoe
              obtain ⟨L, hL⟩ : ∃ L, L = toBA (lineE ⟨n 0, kk, n 2, n 3, n 4⟩) := ⟨_, rfl⟩
              rw [← hL] at hbq hln
              clear hL hoe
              by_cases hq : lineE ⟨n 0, kk, n 2, n 3, n 4⟩ = s
              · rw [decide_eq_true hq] at hbq
                have hres := Lib.hid (evO_is ⟨hoe'.out, hq⟩)
                clear hq
                go_wp2_with fail
                refine (hln.out W5).mono ?_
                rintro e W6 ⟨rfl, hO6⟩
                have hr6 := hO6.heap hr5'.out (fun h => h)
                clear v0 v1 v2 v3 v4 hvl
                have v0 := row_cell hr6 (i := 0) rfl
                have v1 := row_cell hr6 (i := 1) rfl
                have v2 := row_cell hr6 (i := 2) rfl
                have v3 := row_cell hr6 (i := 3) rfl
                have v4 := row_cell hr6 (i := 4) rfl
                have hvl := row_lt hr6
                have hOW6 := Lib.hid ((hOt.out.trans' hO5'.out).trans' hO6)
                have hz := Lib.hid (hOW6.out.heap h0'.out (fun h => h))
                have hzl := row_lt hz.out
                have z0 := row_free hz.out 0
                have z1 := row_free hz.out 1
                have z2 := row_free hz.out 2
                have z3 := row_free hz.out 3
                have z4 := row_free hz.out 4
                have y0 := row_cell hz.out (i := 0) rfl
                have y1 := row_cell hz.out (i := 1) rfl
                have y2 := row_cell hz.out (i := 2) rfl
                have y3 := row_cell hz.out (i := 3) rfl
                have y4 := row_cell hz.out (i := 4) rfl
                clear hO6 hr6
                go_wp2
                change bodyPost _ _ _ _ _ (st5 W6 w.heap.size (.int .i64 (n 0)) (.int .i64 kk) (.int .i64 (n 2)) (.int .i64 (n 3)) (.int .i64 (n 4)))
                have hv1 := st5_row hz.out (.int .i64 (n 0)) (.int .i64 kk) (.int .i64 (n 2)) (.int .i64 (n 3)) (.int .i64 (n 4))
                have o7 := st5_only W6 w.heap.size (.int .i64 (n 0)) (.int .i64 kk) (.int .i64 (n 2)) (.int .i64 (n 3)) (.int .i64 (n 4))
                generalize st5 W6 w.heap.size (.int .i64 (n 0)) (.int .i64 kk) (.int .i64 (n 2)) (.int .i64 (n 3)) (.int .i64 (n 4)) = V2 at hv1 o7 ⊢
                have r0 := row_cell hv1 (i := 0) rfl
                have r1 := row_cell hv1 (i := 1) rfl
                have r2 := row_cell hv1 (i := 2) rfl
                have r3 := row_cell hv1 (i := 3) rfl
                have r4 := row_cell hv1 (i := 4) rfl
                refine bodyPost_ret (v := .tuple #[.agg #[.int .i64 (n 0), .int .i64 kk, .int .i64 (n 2), .int .i64 (n 3), .int .i64 (n 4)], .bool true]) (by simp [results, Tryd.results12, go_sem, r0, r1, r2, r3, r4]) rfl ?_
                refine ⟨?_, (hO'.out.trans' hOW6.out).trans o7 (fun k hk e => by omega)⟩
                rw [hres.out]
                rfl
              · rw [decide_eq_false hq] at hbq
                have hnx := Lib.hid (show ∀ j : Nat, 1 ≤ j → j < kk + 1 → ¬ isE s ⟨n 0, j, n 2, n 3, n 4⟩ from fun j h1 h2 => by
                  by_cases hj : j = kk
                  · rw [hj]
                    exact fun h => hq h.2
                  · exact hnot'.out j h1 (by omega))
                clear hq
                go_wp2_with fail
                refine (hln.out W5).mono ?_
                rintro e W6 ⟨rfl, hO6⟩
                have hOs6 := Lib.hid ((hOk'.out.trans' hO5'.out).trans' hO6)
                clear hO6 v0 v1 v2 v3 v4
                go_wp2
                go_roundw
                case rel => exact ⟨kk + 1, by omega, by omega, by go_num, hnx.out, hOs6.out⟩
                case measure => simp [intOf]; omega
            · rw [if_neg hoe, decide_eq_false hoe] at hln
              have hnx := Lib.hid (show ∀ j : Nat, 1 ≤ j → j < kk + 1 → ¬ isE s ⟨n 0, j, n 2, n 3, n 4⟩ from fun j h1 h2 => by
                by_cases hj : j = kk
                · rw [hj]
                  exact fun h => hoe h.1
                · exact hnot'.out j h1 (by omega))
              clear hoe
              go_wp2_with fail
              refine (hln.out W5).mono ?_
              rintro e W6 ⟨rfl, hO6⟩
              have hOs6 := Lib.hid ((hOk'.out.trans' hO5'.out).trans' hO6)
              clear hO6 v0 v1 v2 v3 v4
              go_wp2
              go_roundw
              case rel => exact ⟨kk + 1, by omega, by omega, by go_num, hnx.out, hOs6.out⟩
              case measure => simp [intOf]; omega
          · obtain rfl : kk = 6 := by omega
            have hnone := Lib.hid (evO_no (s := s) fun e he => by
              have h1 := hcand.out e he
              obtain ⟨j, hj⟩ : ∃ j : Nat, e.k = j := ⟨e.k.toNat, by have := he.1.1; omega⟩
              have h2 := he.1.1
              refine hnot'.out j (by omega) (by omega) ?_
              rw [hj] at h1
              rw [← h1]
              exact he)
            have hz := Lib.hid (hOt.out.heap h0'.out (fun h => h))
            have hzl := row_lt hz.out
            have z0 := row_free hz.out 0
            have z1 := row_free hz.out 1
            have z2 := row_free hz.out 2
            have z3 := row_free hz.out 3
            have z4 := row_free hz.out 4
            have y0 := row_cell hz.out (i := 0) rfl
            have y1 := row_cell hz.out (i := 1) rfl
            have y2 := row_cell hz.out (i := 2) rfl
            have y3 := row_cell hz.out (i := 3) rfl
            have y4 := row_cell hz.out (i := 4) rfl
            clear hrow
            go_wp2
            change bodyPost _ _ _ _ _ (st5 wt w.heap.size (.int .i64 0) (.int .i64 0) (.int .i64 0) (.int .i64 0) (.int .i64 0))
            obtain ⟨hv1, hv2⟩ := hno.out wt hOt.out hnone.out
            generalize st5 wt w.heap.size (.int .i64 0) (.int .i64 0) (.int .i64 0) (.int .i64 0) (.int .i64 0) = V2 at hv1 hv2 ⊢
            have r0 := row_cell hv1 (i := 0) rfl
            have r1 := row_cell hv1 (i := 1) rfl
            have r2 := row_cell hv1 (i := 2) rfl
            have r3 := row_cell hv1 (i := 3) rfl
            have r4 := row_cell hv1 (i := 4) rfl
            exact bodyPost_ret (v := .tuple #[.agg #[.int .i64 0, .int .i64 0, .int .i64 0, .int .i64 0, .int .i64 0], .bool false]) (by simp [results, Tryd.results12, go_sem, r0, r1, r2, r3, r4]) rfl hv2
end Go.Proofs.YtgfgjbbpochiiaaDoor
