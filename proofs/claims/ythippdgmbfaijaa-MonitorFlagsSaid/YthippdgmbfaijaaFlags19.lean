/- MonitorFlags's walk. -/
import Derived.Test.YthippdgmbfaijaaMon10
import Derived.BigQuiet
namespace Go.Proofs.Ythippdgmbfaijaa
open Go Go.RowKit

def flagU (ts : List TaskV) (l : List RecV) (k : Nat) : List (Int × Int) := (folU l k).filterMap (flagOf ts)
def gapU (t : Int) (l : List RecV) (k : Nat) : List Int := gapsL t (folU l k)
theorem flagU_no {ts : List TaskV} {l : List RecV} {k : Nat} (h : folAt l k = none) : flagU ts l (k + 1) = flagU ts l k := by
  unfold flagU
  rw [folU_succ, h]
  simp
theorem gapU_no {t : Int} {l : List RecV} {k : Nat} (h : folAt l k = none) : gapU t l (k + 1) = gapU t l k := by
  unfold gapU gapsL
  rw [folU_succ, h]
  simp
theorem flagU_at {ts : List TaskV} {l : List RecV} {k : Nat} {x : RecV × Int} (h : folAt l k = some x) : flagU ts l (k + 1) = flagU ts l k ++ (flagOf ts x).toList := by
  unfold flagU
  rw [folU_succ, h, List.filterMap_append]
  show _ ++ List.filterMap (flagOf ts) [x] = _
  cases hf : flagOf ts x <;> simp [hf]
theorem gapU_at {t : Int} {l : List RecV} {k : Nat} {x : RecV × Int} (h : folAt l k = some x) : gapU t l (k + 1) = gapU t l k ++ (gapOf t x).toList := by
  unfold gapU gapsL
  rw [folU_succ, h, List.filterMap_append]
  show _ ++ List.filterMap (gapOf t) [x] = _
  cases hf : gapOf t x <;> simp [hf]
theorem flagCells_at : ∀ (l : List (Int × Int)) (n : Nat) (f : Int × Int), l[n]? = some f → (flagCells l)[n * 2]? = some (.int .i64 f.1) ∧ (flagCells l)[n * 2 + 1]? = some (.int .i64 f.2)
  | [], n, f, h => by simp at h
  | a :: l, 0, f, h => by
    simp at h
    subst h
    exact ⟨rfl, rfl⟩
  | a :: l, n + 1, f, h => by
    have hc : flagCells (a :: l) = .int .i64 a.1 :: .int .i64 a.2 :: flagCells l := by simp [flagCells]
    rw [hc, show (n + 1) * 2 = n * 2 + 2 by omega, show n * 2 + 2 + 1 = (n * 2 + 1) + 2 by omega, List.getElem?_cons_succ, List.getElem?_cons_succ, List.getElem?_cons_succ, List.getElem?_cons_succ]
    exact flagCells_at l n f (by simpa using h)
theorem flagU_len (ts : List TaskV) (l : List RecV) (k : Nat) : (flagU ts l k).length ≤ k := Nat.le_trans (List.length_filterMap_le _ _) (folU_len l k)
theorem gapU_len (t : Int) (l : List RecV) (k : Nat) : (gapU t l k).length ≤ k := Nat.le_trans (List.length_filterMap_le _ _) (folU_len l k)

set_option maxRecDepth 100000 in
set_option maxHeartbeats 4000000 in
theorem flags19_any {w : World} {c : ConfV} {ts : List TaskV} {A : Option Addr} {n cap : Nat} {l : List RecV} (t : Int) (hT : TasksAt w c.ta ts) (hT9 : c.ta.n ≤ 9223372036854775807) (hl : RecRow w A l) (hn : l.length = n) (hfit : ∀ r ∈ l, fitR r) :
    Calls Try.prog 3 #[c.val, .slice A n cap, .int .i64 t] w (GrowB true w) := by
  obtain ⟨W1, hW1⟩ : ∃ W1, W1 = w.alloc (.cells c.cells.toArray 27) := ⟨_, rfl⟩
  have hO : Only (fun _ => False) w W1 := by rw [hW1]; exact (Only.refl (fun _ => False) w).alloc (.cells c.cells.toArray 27)
  have hB : W1.heap[w.heap.size]? = some (.cells c.cells.toArray 27 (0, 0)) := by rw [hW1]; exact heap_new_at _ _ rfl
  have hB' := Lib.hid hB
  have hO' := Lib.hid hO
  have hT' := Lib.hid (hT.new hO)
  have hl' := Lib.hid (hl.new hO)
  have hn' := Lib.hid hn
  have hlen := Lib.hid hT.len
  have q7 := Lib.hid (fun (W : World) (hW : Only (fun _ => False) W1 W) (h : n ≤ 1000000) => all_any (cap := cap) (hl'.out.new hW) hn h hfit (hT'.out.new hW) hT9)
  have q8 := Lib.hid (fun (W : World) (hW : Only (fun _ => False) W1 W) (h : n ≤ 1000000) => gaps_any (cap := cap) t (hl'.out.new hW) hn h hfit)
  have q9 := Lib.hid (fun (W : World) (hW : Only (fun _ => False) W1 W) (h : n ≤ 1000000) => first_any (cap := cap) (hl'.out.new hW) hn h hfit (hT'.out.new hW) hT9)
  unfold ConfV.val at q7 q9 ⊢
  unfold ConfV.cells at hW1 hB'
  obtain ⟨s, wy, h, mi, ⟨mA, mn, mc⟩, g, ⟨cA, cn, cc⟩, ⟨eA, en, ec⟩, ⟨tA, tn, tc⟩, ⟨lA, ln, lc⟩⟩ := c
  dsimp only at *
  have hW1' := Lib.hid hW1
  clear hT hl hn hW1 hB hO hfit
  go_enter Try.func3, Try.ntmps3
  go_wp2_with fail
  rw [← hW1'.out]
  refine (fixed19_any _).mono ?_
  rintro e w2 ⟨rfl, hO2⟩
  have hO2' := Lib.hid hO2
  have hbox := Lib.hid (hO2.heap hB'.out (fun h => h))
  have d0 := row_cell hbox.out (i := 0) rfl
  have d1 := row_cell hbox.out (i := 1) rfl
  have d2 := row_cell hbox.out (i := 2) rfl
  have d3 := row_cell hbox.out (i := 3) rfl
  have d4 := row_cell hbox.out (i := 4) rfl
  have d5 := row_cell hbox.out (i := 5) rfl
  have d6 := row_cell hbox.out (i := 6) rfl
  have d7 := row_cell hbox.out (i := 7) rfl
  have d8 := row_cell hbox.out (i := 8) rfl
  have d9 := row_cell hbox.out (i := 9) rfl
  have hlb := row_lt hbox.out
  clear hO2
  by_cases h20 : 20 < tn
  · have h20' : (20 : Int) < (tn : Int) := by omega
    go_wp2
    go_ret
    exact ⟨rfl, hO'.out.trans' hO2'.out⟩
  by_cases h150 : 150 < n
  · have h20' : ¬ (20 : Int) < (tn : Int) := by omega
    have h150' : (150 : Int) < (n : Int) := by omega
    go_wp2
    go_ret
    exact ⟨rfl, hO'.out.trans' hO2'.out⟩
  have h20' : ¬ (20 : Int) < (tn : Int) := by omega
  have h150' : ¬ (150 : Int) < (n : Int) := by omega
  replace q7 := Lib.hid (fun W hW => q7.out W hW (by omega))
  replace q8 := Lib.hid (fun W hW => q8.out W hW (by omega))
  replace q9 := Lib.hid (fun W hW => q9.out W hW (by omega))
  go_wp2_with fail
  have hboxw := Lib.hid hbox.out
  clear d0 d1 d2 d3 d4 d5 d6 d7 d8 d9 hlb
  go_loopw [7, 8, 32] (fun f gp i wr => ∃ (k : Nat) (pF : Option Addr) (cF : Nat) (hF : Option Nat) (pG : Option Addr) (cG : Nat) (hG : Option Nat), k ≤ n ∧ i = .int .i64 k ∧ f = .slice pF (flagU ts l k).length cF ∧ gp = .slice pG (gapU t l k).length cG ∧ Hid (Win wr 39 2 (.slice pF (flagU ts l k).length cF) hF (flagU ts l k).length (flagCells (flagU ts l k))) ∧ Hid (Win wr 3 1 (.slice pG (gapU t l k).length cG) hG (gapU t l k).length ((gapU t l k).map mkI)) ∧ Hid ((∀ x, hF = some x → w2.heap.size ≤ x) ∧ ∀ x, hG = some x → w2.heap.size ≤ x) ∧ Only (fun _ => False) w2 wr) (fun _ _ i _ => n - (intOf i).toNat)
  case atStart => exact ⟨0, none, 0, none, none, 0, none, Nat.zero_le _, rfl, rfl, rfl, Lib.hid (Win.nil _ _ _), Lib.hid (Win.nil _ _ _), Lib.hid ⟨fun x hx => (by cases hx), fun x hx => (by cases hx)⟩, Only.refl _ _⟩
  case round =>
    obtain ⟨k, pF, cF, hF, pG, cG, hG, hk, rfl, rfl, rfl, hWF, hWG, hfr, hOk⟩ := hrel
    obtain ⟨ws, hws⟩ : ∃ ws : World, ws = wr := ⟨_, rfl⟩
    subst hws
    have hOs := Lib.hid (hO2'.out.trans' hOk)
    have hOk' := Lib.hid hOk
    have hbox := Lib.hid (hOk.heap hbox.out (fun h => h))
    have hrow := Lib.hid (hT'.out.new hOs.out)
    have hrec := Lib.hid (hl'.out.new hOs.out)
    clear hOk
    have hFl := flagU_len ts l k
    have hGl := gapU_len t l k
    obtain ⟨F, hFe⟩ : ∃ F, F = flagU ts l k := ⟨_, rfl⟩
    obtain ⟨G, hGe⟩ : ∃ G, G = gapU t l k := ⟨_, rfl⟩
    rw [← hFe] at hWF hFl ⊢
    rw [← hGe] at hWG hGl ⊢
    obtain ⟨fn, hfn⟩ : ∃ fn, fn = F.length := ⟨_, rfl⟩
    obtain ⟨gn, hgn⟩ : ∃ gn, gn = G.length := ⟨_, rfl⟩
    rw [← hfn] at hWF hFl ⊢
    rw [← hgn] at hWG hGl ⊢
    have hFe' := Lib.hid hFe
    have hGe' := Lib.hid hGe
    have hfn' := Lib.hid hfn
    have hgn' := Lib.hid hgn
    clear hFe hGe hfn hgn
    by_cases hkn : k < n
    · have hkn' : (k : Int) < (n : Int) := by omega
      obtain ⟨r, hr⟩ : ∃ r, l[k]? = some r := ⟨_, List.getElem?_eq_getElem (by have := hn'.out; omega)⟩
      obtain ⟨b, off, rfl, hb, a0, a1, a2, a3, a4, a5, a6⟩ := hrec.out k r hr
      have hr' := Lib.hid hr
      clear hr
      -- [R
      go_upto_region 10 with fail
      obtain ⟨x0, x1, x2, x3, x4, x5, x6⟩ := r
      dsimp only
      obtain ⟨W2, hW2⟩ : ∃ W2, W2 = ws.alloc (.cells #[.int .i64 x0, .int .i64 x1, .int .i64 x2, .int .i64 x3, .int .i64 x4, .int .i64 x5, .int .i64 x6] 33) := ⟨_, rfl⟩
      have hO2 : Only (fun _ => False) ws W2 := by rw [hW2]; exact (Only.refl _ ws).alloc _
      have hb2 : W2.heap[ws.heap.size]? = some (.cells #[.int .i64 x0, .int .i64 x1, .int .i64 x2, .int .i64 x3, .int .i64 x4, .int .i64 x5, .int .i64 x6] 33 (0, 0)) := by rw [hW2]; exact heap_new_at _ _ rfl
      rw [← hW2]
      clear hW2 a0 a1 a2 a3 a4 a5 a6 hb
      have hb2' := Lib.hid hb2
      have hbox2 := Lib.hid (hO2.heap hbox.out (fun h => h))
      have hrow2 := Lib.hid (hrow.out.new hO2)
      have hrec2 := Lib.hid (hrec.out.new hO2)
      have hWF2 := Lib.hid (hWF.out.kept hO2 (fun _ _ h => h))
      have hWG2 := Lib.hid (hWG.out.kept hO2 (fun _ _ h => h))
      have hOk2 := Lib.hid (hOk'.out.trans' hO2)
      have e1 := row_cell (L := [.int .i64 x0, .int .i64 x1, .int .i64 x2, .int .i64 x3, .int .i64 x4, .int .i64 x5, .int .i64 x6]) hb2 (i := 1) rfl
      have hl1 := row_lt hb2
      clear hO2 hb2
      obtain ⟨B, hB⟩ : ∃ B, B = isRel ⟨x0, x1, x2, x3, x4, x5, x6⟩ := ⟨_, rfl⟩
      have hB' := Lib.hid hB
      unfold isRel at hB
      dsimp only at hB
      go_cut [44] from 37 to 43 (fun v wc => v = .bool (!B) ∧ W2 = wc)
      case first =>
        by_cases h1 : x1 = 1
        · have hv := Lib.hid (show B = true by rw [hB]; exact decide_eq_true (.inl h1))
          subst h1
          clear hB
          go_wp2_with fail
          go_meet
          case rel => exact ⟨by rw [hv.out]; rfl, rfl⟩
        · by_cases h2 : x1 = 2
          · have hv := Lib.hid (show B = true by rw [hB]; exact decide_eq_true (.inr h2))
            subst h2
            clear hB
            go_wp2_with fail
            go_meet
            case rel => exact ⟨by rw [hv.out]; rfl, rfl⟩
          · have hv := Lib.hid (show B = false by rw [hB]; exact decide_eq_false (by omega))
            have n1 : (x1 == 1) = false := by simpa using h1
            have n2 : (x1 == 2) = false := by simpa using h2
            clear hB
            go_wp2_with fail
            go_meet
            case rel => exact ⟨by rw [hv.out]; simp [h1, h2], rfl⟩
      obtain ⟨rfl, rfl⟩ := hcut
      clear hB e1
      cases B with
      | false =>
        have hno := Lib.hid (show folAt l k = none by unfold folAt; rw [hr'.out]; exact if_neg (by rw [← hB'.out]; simp))
        have hfu := Lib.hid (flagU_no (ts := ts) hno.out)
        have hgu := Lib.hid (gapU_no (t := t) hno.out)
        go_wp2
        go_roundw
        case rel => exact ⟨k + 1, pF, cF, hF, pG, cG, hG, by omega, by go_num, by rw [hfu.out, ← hFe'.out, ← hfn'.out], by rw [hgu.out, ← hGe'.out, ← hgn'.out], by rw [hfu.out, ← hFe'.out, ← hfn'.out]; exact Lib.hid (hWF2.out.kept (Only.refl _ _) (fun _ _ h => h)), by rw [hgu.out, ← hGe'.out, ← hgn'.out]; exact Lib.hid (hWG2.out.kept (Only.refl _ _) (fun _ _ h => h)), hfr, hOk2.out.trans' (Only.refl _ _)⟩
        case measure => simp [intOf]; omega
      | true =>
        simp only [Bool.not_true]
        go_wp2_with fail
        go_loopw [7, 8, 11] (fun f gp p wr => ∃ q : Nat, q ≤ k ∧ f = .slice pF fn cF ∧ gp = .slice pG gn cG ∧ p = .int .i64 ((q : Int) - 1) ∧ lastAt l x2 q = lastAt l x2 k ∧ Only (fun _ => False) W2 wr) (fun _ _ p _ => (intOf p + 1).toNat)
        case atStart => exact ⟨k, Nat.le_refl _, rfl, rfl, rfl, rfl, Only.refl _ _⟩
        case round =>
          obtain ⟨q, hq, rfl, rfl, rfl, hla, hOq⟩ := hrel
          obtain ⟨w3, hw3⟩ : ∃ ws : World, ws = wr := ⟨_, rfl⟩
          subst hw3
          have hla' := Lib.hid hla
          have hOq' := Lib.hid hOq
          have hrec3 := Lib.hid (hrec2.out.new hOq)
          have hb3 := Lib.hid (hOq.heap hb2'.out (fun h => h))
          clear hla hOq hl1
          have hl3 := row_lt hb3.out
          cases q with
          | zero =>
            have hno := Lib.hid (show folAt l k = none by unfold folAt; rw [hr'.out]; dsimp only; rw [if_pos hB'.out.symm, ← hla'.out]; rfl)
            have hfu := Lib.hid (flagU_no (ts := ts) hno.out)
            have hgu := Lib.hid (gapU_no (t := t) hno.out)
            go_wp2
            go_roundw
            case rel => exact ⟨k + 1, pF, cF, hF, pG, cG, hG, by omega, by go_num, by rw [hfu.out, ← hFe'.out, ← hfn'.out], by rw [hgu.out, ← hGe'.out, ← hgn'.out], by rw [hfu.out, ← hFe'.out, ← hfn'.out]; exact Lib.hid (hWF2.out.kept hOq'.out (fun _ _ h => h)), by rw [hgu.out, ← hGe'.out, ← hgn'.out]; exact Lib.hid (hWG2.out.kept hOq'.out (fun _ _ h => h)), hfr, hOk2.out.trans' hOq'.out⟩
            case measure => simp [intOf]; omega
          | succ p =>
            have hpi : ((p + 1 : Nat) : Int) - 1 = (p : Int) := by omega
            rw [hpi]
            have hpn : (p : Int) < (n : Int) := by omega
            have hp0 : ¬ (p : Int) < 0 := by omega
            obtain ⟨y, hy⟩ : ∃ y, l[p]? = some y := ⟨_, List.getElem?_eq_getElem (by have := hn'.out; omega)⟩
            obtain ⟨bb, oo, hA, hbb, c0, c1, c2, c3, c4, c5, c6⟩ := hrec3.out p y hy
            cases hA
            have hy' := Lib.hid hy
            obtain ⟨y0, y1, y2, y3, y4, y5, y6⟩ := y
            dsimp only at c0 c1 c2 c3 c4 c5 c6
            clear hy c3 c4 c5 c6
            have e2 := row_cell (L := [.int .i64 x0, .int .i64 x1, .int .i64 x2, .int .i64 x3, .int .i64 x4, .int .i64 x5, .int .i64 x6]) hb3.out (i := 2) rfl
            obtain ⟨H, hH⟩ : ∃ H, H = decide ((y1 = 1 ∨ y1 = 2) ∧ y2 = x2) := ⟨_, rfl⟩
            have hH' := Lib.hid hH
            go_upto_region 14 with fail
            go_cut [74] from 51 to 73 (fun v wc => v = .bool (!H) ∧ Only (fun _ => False) w3 wc)
            case first =>
              by_cases h1 : y1 = 1
              · subst h1
                by_cases h2 : y2 = x2
                · have hv := Lib.hid (show H = true by rw [hH]; exact decide_eq_true ⟨.inl rfl, h2⟩)
                  subst h2
                  clear hH
                  go_quiet (fail)
                  go_wp2_with fail
                  go_meet
                  case rel => exact ⟨by rw [hv.out]; rfl, (Only.refl _ _).drewN _⟩
                · have hv := Lib.hid (show H = false by rw [hH]; exact decide_eq_false (fun h => h2 h.2))
                  have n2 : (y2 == x2) = false := by simpa using h2
                  clear hH
                  go_quiet (fail)
                  go_wp2_with fail
                  go_meet
                  case rel => exact ⟨by rw [hv.out]; simp [h2], (Only.refl _ _).drewN _⟩
              · by_cases h3 : y1 = 2
                · subst h3
                  by_cases h2 : y2 = x2
                  · have hv := Lib.hid (show H = true by rw [hH]; exact decide_eq_true ⟨.inr rfl, h2⟩)
                    subst h2
                    clear hH
                    go_quiet (fail)
                    go_wp2_with fail
                    go_meet
                    case rel => exact ⟨by rw [hv.out]; rfl, (Only.refl _ _).drewN _⟩
                  · have hv := Lib.hid (show H = false by rw [hH]; exact decide_eq_false (fun h => h2 h.2))
                    have n2 : (y2 == x2) = false := by simpa using h2
                    clear hH
                    go_quiet (fail)
                    go_wp2_with fail
                    go_meet
                    case rel => exact ⟨by rw [hv.out]; simp [h2], (Only.refl _ _).drewN _⟩
                · have hv := Lib.hid (show H = false by rw [hH]; exact decide_eq_false (fun h => by omega))
                  have n1 : (y1 == 1) = false := by simpa using h1
                  have n3 : (y1 == 2) = false := by simpa using h3
                  clear hH
                  go_quiet (fail)
                  go_wp2_with fail
                  go_meet
                  case rel => exact ⟨by rw [hv.out]; simp, (Only.refl _ _).drewN _⟩
            obtain ⟨rfl, hOc⟩ := hcut
            obtain ⟨w4, hw4⟩ : ∃ ws : World, ws = wc := ⟨_, rfl⟩
            subst hw4
            have hO4 := Lib.hid (hOq'.out.trans' hOc)
            have hb4 := Lib.hid (hOc.heap hb3.out (fun h => h))
            clear hH e2
            cases H with
            | false =>
              have hsk := Lib.hid (lastAt_skip (l := l) x2 hy'.out (fun h => by
                have h2 : isRel ⟨y0, y1, y2, y3, y4, y5, y6⟩ = true ∧ y2 = x2 := h
                unfold isRel at h2
                simp only [decide_eq_true_eq] at h2
                have := hH'.out
                rw [decide_eq_true h2] at this
                cases this))
              clear hOc
              simp only [Bool.not_false]
              go_wp2
              go_roundw
              case rel => exact ⟨p, by omega, rfl, rfl, rfl, by rw [← hsk.out]; exact hla'.out, hO4.out⟩
              case measure => simp [intOf]
            | true =>
              have hHt := Lib.hid (of_decide_eq_true hH'.out.symm)
              have hlast := Lib.hid (show lastAt l x2 k = some (cl y0) by
                rw [← hla'.out]
                exact lastAt_hit hy'.out ⟨show decide (y1 = 1 ∨ y1 = 2) = true from decide_eq_true hHt.out.1, hHt.out.2⟩)
              have hfol := Lib.hid (show folAt l k = some (⟨x0, x1, x2, x3, x4, x5, x6⟩, cl x0 - cl y0) by
                unfold folAt
                rw [hr'.out]
                dsimp only
                rw [if_pos hB'.out.symm, hlast.out]
                first | done | rfl)
              have hfu := Lib.hid (flagU_at (ts := ts) hfol.out)
              have hgu := Lib.hid (gapU_at (t := t) hfol.out)
              simp only [Bool.not_true]
              replace c0 := hOc.cell c0 (fun h => h)
              replace hbb := Nat.lt_of_lt_of_le hbb hOc.size
              replace hl3 := Nat.lt_of_lt_of_le hl3 hOc.size
              clear hOc c1 c2
              have e0 := row_cell (L := [.int .i64 x0, .int .i64 x1, .int .i64 x2, .int .i64 x3, .int .i64 x4, .int .i64 x5, .int .i64 x6]) hb4.out (i := 0) rfl
              have k1 := cl_bd x0
              have k2 := cl_bd y0
              obtain ⟨zx, hzx⟩ : ∃ z, z = cl x0 := ⟨_, rfl⟩
              obtain ⟨zy, hzy⟩ : ∃ z, z = cl y0 := ⟨_, rfl⟩
              have m1 := Lib.hid (clamp_any x0)
              have m2 := Lib.hid (clamp_any y0)
              rw [← hzx] at k1 m1
              rw [← hzy] at k2 m2
              have p1 := Lib.hid (fun (x : Wd w4) => Calls.wd_same (x := x) ((m1.out x.W).mono fun _ _ h => ⟨h.1, h.2⟩))
              have p2 := Lib.hid (fun (x : Wd w4) => Calls.wd_same (x := x) ((m2.out x.W).mono fun _ _ h => ⟨h.1, h.2⟩))
              rw [← hzx, ← hzy] at hfu hgu
              clear hzx hzy m1 m2
              go_upto_region 15 with fail
              go_cut [12] from 75 to 84 (fun v wc => v = .int .i64 (zx - zy) ∧ Only (fun _ => False) w4 wc)
              case first =>
                have hex := wd_ex w4
                replace e0 := wd_cell e0
                replace c0 := wd_cell c0
                refine wp_region_wd (by kernel_rfl) (by kernel_rfl) ?_
                repeat (go_big_quiet_step (first | (go_at_call 6; first | (with_reducible exact p1.out _) | (with_reducible exact p2.out _))))
                refine wpQuiet_nil ?_
                rintro _ ⟨x, rfl⟩
                have hx := Lib.hid x.ok
                clear hex e0 c0
                go_wp2_with fail
                go_meet
                case rel => exact ⟨rfl, hx.out⟩
              obtain ⟨rfl, hOc⟩ := hcut
              obtain ⟨w5, hw5⟩ : ∃ ws : World, ws = wc := ⟨_, rfl⟩
              subst hw5
              have hO5 := Lib.hid (hO4.out.trans' hOc)
              have hb5 := Lib.hid (hOc.heap hb4.out (fun h => h))
              have hF5 := Lib.hid (hWF2.out.kept hO5.out (fun _ _ h => h))
              have hG5 := Lib.hid (hWG2.out.kept hO5.out (fun _ _ h => h))
              replace hl3 := Nat.lt_of_lt_of_le hl3 hOc.size
              clear hOc e0 c0 hbb p1 p2
              obtain ⟨gap, hgap⟩ : ∃ gap, gap = zx - zy := ⟨_, rfl⟩
              rw [← hgap] at hfu hgu ⊢
              have hgb : -4398046511104 ≤ gap ∧ gap ≤ 4398046511104 := by omega
              clear hgap k1 k2
              have e2 := row_cell (L := [.int .i64 x0, .int .i64 x1, .int .i64 x2, .int .i64 x3, .int .i64 x4, .int .i64 x5, .int .i64 x6]) hb5.out (i := 2) rfl
              have hs25 := Lib.hid (hOk2.out.trans' hO5.out)
              obtain ⟨G2, hG2⟩ : ∃ G2, G2 = gapU t l (k + 1) := ⟨_, rfl⟩
              obtain ⟨gm, hgm⟩ : ∃ gm, gm = G2.length := ⟨_, rfl⟩
              have hG2' := Lib.hid hG2
              have hgm' := Lib.hid hgm
              clear hG2 hgm
              rw [← hG2'.out, ← hGe'.out] at hgu
              unfold gapOf at hgu
              dsimp only at hgu
              go_upto_if 88 with fail
              go_cut [8] from 88 to 92 (fun v wc => ∃ (pH : Option Addr) (cH : Nat) (hH : Option Nat), v = .slice pH gm cH ∧ Win wc 3 1 (.slice pH gm cH) hH gm (G2.map mkI) ∧ (∀ x, hH = some x → w2.heap.size ≤ x) ∧ Win wc 39 2 (.slice pF fn cF) hF fn (flagCells F) ∧ Only (fun _ => False) w2 wc ∧ wc.heap[ws.heap.size]? = some (.cells #[.int .i64 x0, .int .i64 x1, .int .i64 x2, .int .i64 x3, .int .i64 x4, .int .i64 x5, .int .i64 x6] 33 (0, 0)))
              case first =>
                have hsz5 := hs25.out.size
                have hszb := hOk'.out.size
                by_cases ht : x2 = t
                · have te : (x2 == t) = true := by simpa using ht
                  rw [if_pos ht] at hgu
                  clear ht
                  go_wp2_with (at_builtin; go_loud (refine wpList_append_win rfl _ _ 24 rfl 3 (Value.int .i64 0) 1 8 Try.underlying24 info3 rfl (by decide) rfl (hG5.out.kept ((Only.refl (fun _ => False) w5).alloc _) (fun _ _ h => h)) _ 1 1 rfl [.int .i64 gap] rfl (fun _ => ⟨_, rfl, row_oneI (heap_new_at _ _ rfl)⟩) (by simp [Value.oneCell']) (by unfold maxLen; omega) (by omega) ?_; intro v4 w6 h4 hW4 hO4' hh4; obtain ⟨p4, c4, rfl, _, _⟩ := hW4.out.form))
                  go_meet
                  case rel =>
                    have hlen2 : gm = gn + 1 := by rw [hgm'.out, hgu.out, hgn'.out]; simp
                    have hW4' := hW4.out
                    rw [show G.map mkI ++ [Value.int .i64 gap] = G2.map mkI by rw [hgu.out]; simp [mkI]] at hW4'
                    rw [hlen2]
                    refine ⟨p4, c4, h4, rfl, hW4', fun x hx => ?_, (hF5.out.kept ((Only.refl (fun _ => False) w5).alloc _) (fun _ _ h => h)).kept hO4'.out (fun x hx e => hF5.out.ne hG5.out (by decide) x hx e), (hs25.out.alloc _).trans hO4'.out (fun x hx e => by have := hfr.out.2 x e.symm; omega), hO4'.out.heap (heap_kept_alloc hb5.out _) (fun e => by have := hWG.out.lt _ e.symm; omega)⟩
                    rcases hh4.out with rfl | ⟨g, hg, hge⟩
                    · exact hfr.out.2 x hx
                    · rw [hg] at hx
                      cases hx
                      rw [alloc_size] at hge
                      omega
                · have te : (x2 == t) = false := by simpa using ht
                  rw [if_neg ht] at hgu
                  clear ht
                  go_wp2_with fail
                  go_meet
                  case rel =>
                    have hgg : G2 = G := by rw [hgu.out]; simp
                    have hlen2 : gm = gn := by rw [hgm'.out, hgg, hgn'.out]
                    rw [hgg, hlen2]
                    exact ⟨pG, cG, hG, rfl, hG5.out, hfr.out.2, hF5.out, hs25.out, hb5.out⟩
              obtain ⟨pH, cH, hH, rfl, hGw, hHf0, hFw, hOw, hbw⟩ := hcut
              obtain ⟨w8, hw8⟩ : ∃ ws : World, ws = wc := ⟨_, rfl⟩
              subst hw8
              have hG8 := Lib.hid hGw
              have hF8 := Lib.hid hFw
              have hHf := Lib.hid hHf0
              have hO8 := Lib.hid hOw
              have hbox8 := Lib.hid (hOw.heap hboxw.out (fun h => h))
              have hrow8 := Lib.hid (hT'.out.new (hO2'.out.trans' hOw))
              have hsz8 := hOw.size
              clear e2 hl3 hGw hHf0 hFw
              have e0 := row_cell (L := [.int .i64 x0, .int .i64 x1, .int .i64 x2, .int .i64 x3, .int .i64 x4, .int .i64 x5, .int .i64 x6]) hbw (i := 0) rfl
              have e2 := row_cell (L := [.int .i64 x0, .int .i64 x1, .int .i64 x2, .int .i64 x3, .int .i64 x4, .int .i64 x5, .int .i64 x6]) hbw (i := 2) rfl
              have d8 := row_cell hbox8.out (i := 8) rfl
              have hl3 := row_lt hbw
              have hl4 := row_lt hbox8.out
              clear hbw hOw
              unfold flagOf at hfu
              dsimp only at hfu
              rw [hlen.out, ← hFe'.out] at hfu
              by_cases hh0 : 0 ≤ x2 ∧ x2 < tn
              · have hhas : hasF tn x2 = true := decide_eq_true hh0
                rw [if_pos hhas] at hfu
                obtain ⟨mt, rfl⟩ : ∃ mt : Nat, x2 = mt := ⟨x2.toNat, by omega⟩
                obtain ⟨tk, htk⟩ : ∃ tk, ts[mt]? = some tk := ⟨_, List.getElem?_eq_getElem (by have := hlen.out; omega)⟩
                rw [Int.toNat_natCast, htk] at hfu
                dsimp only at hfu
                obtain ⟨bt, ot, hA, hbl, hcl⟩ := hrow8.out.at_ mt tk htk
                simp only at hA
                subst hA
                have t2 := hcl.c2
                clear hcl htk
                obtain ⟨P, th, pe, de, fr, fl, o⟩ := tk
                dsimp only at t2 hfu
                have g2 : (mt : Int) < (tn : Int) := hh0.2
                clear hhas hh0
                obtain ⟨cp, hcp⟩ : ∃ cp, cp = cl pe := ⟨_, rfl⟩
                have q2 := Lib.hid (clamp_any pe)
                rw [← hcp] at hfu q2
                clear hcp
                by_cases hlt : gap < cp
                · rw [if_pos hlt] at hfu
                  go_wp2_with fail
                  refine (q2.out _).mono ?_
                  rintro e w' ⟨rfl, rfl⟩
                  go_wp2_with (at_builtin; go_loud (refine wpList_append_win rfl _ _ 30 rfl 39 (Value.agg #[.int .i64 0, .int .i64 0]) 2 16 Try.underlying30 info39 rfl (by decide) rfl (hF8.out.kept ((Only.refl (fun _ => False) w8).alloc _) (fun _ _ h => h)) _ 1 1 rfl [.int .i64 x0, .int .i64 (mt : Int)] rfl (fun _ => ⟨_, rfl, row_two (heap_new_at _ _ rfl)⟩) (by simp [Value.oneCell']) (by unfold maxLen; omega) (by omega) ?_; intro v9 w9 h9 hW9 hO9 hh9; obtain ⟨p9, c9, rfl, _, _⟩ := hW9.out.form))
                  have hfl2 := Lib.hid (show (flagU ts l (k + 1)).length = fn + 1 by rw [hfu.out, hfn'.out]; simp)
                  have hWn := Lib.hid (show Win w9 39 2 (.slice p9 (fn + 1) c9) h9 (fn + 1) (flagCells (flagU ts l (k + 1))) from by
                    rw [hfu.out, show (some (x0, (mt : Int))).toList = [(x0, (mt : Int))] from rfl, flagCells_snoc]
                    exact hW9.out)
                  have hGn := Lib.hid (show Win w9 3 1 (.slice pH gm cH) hH gm (G2.map mkI) from (hG8.out.kept ((Only.refl (fun _ => False) w8).alloc _) (fun _ _ h => h)).kept hO9.out (fun x hx e => hG8.out.ne hF8.out (by decide) x hx e))
                  have hfrn := Lib.hid (show ∀ x, h9 = some x → w2.heap.size ≤ x from fun x hx => by
                    rcases hh9.out with rfl | ⟨g, hg, hge⟩
                    · exact hfr.out.1 x hx
                    · rw [hg] at hx
                      cases hx
                      rw [alloc_size] at hge
                      omega)
                  have hOn := Lib.hid (show Only (fun _ => False) w2 w9 from (hO8.out.alloc _).trans hO9.out (fun x hx e => by have := hfr.out.1 x e.symm; omega))
                  go_wp2
                  go_roundw
                  case rel => exact ⟨k + 1, p9, c9, h9, pH, cH, hH, by omega, by go_num, by rw [hfl2.out], by rw [← hG2'.out, ← hgm'.out], by rw [hfl2.out]; exact Lib.hid hWn.out, by rw [← hG2'.out, ← hgm'.out]; exact Lib.hid hGn.out, Lib.hid ⟨hfrn.out, hHf.out⟩, hOn.out⟩
                  case measure => simp [intOf]; omega
                · rw [if_neg hlt] at hfu
                  have hfu2 := Lib.hid (show flagU ts l (k + 1) = F by rw [hfu.out]; simp)
                  go_wp2_with fail
                  refine (q2.out _).mono ?_
                  rintro e w' ⟨rfl, rfl⟩
                  go_wp2
                  go_roundw
                  case rel => exact ⟨k + 1, pF, cF, hF, pH, cH, hH, by omega, by go_num, by rw [hfu2.out, ← hfn'.out], by rw [← hG2'.out, ← hgm'.out], by rw [hfu2.out, ← hfn'.out]; exact Lib.hid hF8.out, by rw [← hG2'.out, ← hgm'.out]; exact Lib.hid hG8.out, Lib.hid ⟨hfr.out.1, hHf.out⟩, hO8.out⟩
                  case measure => simp [intOf]; omega
              · have hhas : hasF tn x2 = false := decide_eq_false hh0
                rw [if_neg (by rw [hhas]; simp)] at hfu
                have hfu2 := Lib.hid (show flagU ts l (k + 1) = F by rw [hfu.out]; simp)
                clear hhas
                by_cases g1 : 0 ≤ x2
                · have g2 : ¬ x2 < (tn : Int) := by omega
                  go_wp2
                  go_roundw
                  case rel => exact ⟨k + 1, pF, cF, hF, pH, cH, hH, by omega, by go_num, by rw [hfu2.out, ← hfn'.out], by rw [← hG2'.out, ← hgm'.out], by rw [hfu2.out, ← hfn'.out]; exact Lib.hid hF8.out, by rw [← hG2'.out, ← hgm'.out]; exact Lib.hid hG8.out, Lib.hid ⟨hfr.out.1, hHf.out⟩, hO8.out⟩
                  case measure => simp [intOf]; omega
                · go_wp2
                  go_roundw
                  case rel => exact ⟨k + 1, pF, cF, hF, pH, cH, hH, by omega, by go_num, by rw [hfu2.out, ← hfn'.out], by rw [← hG2'.out, ← hgm'.out], by rw [hfu2.out, ← hfn'.out]; exact Lib.hid hF8.out, by rw [← hG2'.out, ← hgm'.out]; exact Lib.hid hG8.out, Lib.hid ⟨hfr.out.1, hHf.out⟩, hO8.out⟩
                  case measure => simp [intOf]; omega
      -- R]
    · obtain rfl : k = n := by omega
      -- [E
      have hFL : flagsL ts l = F := by rw [hFe'.out, flagsL, folL, hn'.out, flagU]
      have hGL : gapsL t (folL l) = G := by rw [hGe'.out, folL, hn'.out, gapU]
      unfold FlagsEnd at q7
      unfold IntsEnd at q8
      rw [hFL] at q7 q9
      rw [hGL] at q8
      rw [← hfn'.out] at q7
      rw [← hgn'.out] at q8
      clear hFL hGL
      have d0 := row_cell hbox.out (i := 0) rfl
      have d1 := row_cell hbox.out (i := 1) rfl
      have d2 := row_cell hbox.out (i := 2) rfl
      have d3 := row_cell hbox.out (i := 3) rfl
      have d4 := row_cell hbox.out (i := 4) rfl
      have d5 := row_cell hbox.out (i := 5) rfl
      have d6 := row_cell hbox.out (i := 6) rfl
      have d7 := row_cell hbox.out (i := 7) rfl
      have d8 := row_cell hbox.out (i := 8) rfl
      have d9 := row_cell hbox.out (i := 9) rfl
      have hlb := row_lt hbox.out
      go_wp2_with fail
      refine (q7.out _ hOs.out).mono ?_
      rintro e w4 ⟨p7, c7, h7, rfl, hW7, -, hO7⟩
      have hW7' := Lib.hid hW7
      have hO47 := Lib.hid hO7
      clear d0 d1 d2 d3 d4 d5 d6 d7 d8 d9 hlb hW7 hO7
      go_wp2_with fail
      refine (q8.out _ (hOs.out.trans' hO47.out)).mono ?_
      rintro e w5 ⟨p8, c8, h8, rfl, hW8, -, hO8⟩
      have hW8' := Lib.hid hW8
      have hO58 := Lib.hid (hO47.out.trans' hO8)
      have hW7'' := Lib.hid (hW7'.out.kept hO8 (fun _ _ h => h))
      have hWF' := Lib.hid (hWF.out.kept hO58.out (fun _ _ h => h))
      have hWG' := Lib.hid (hWG.out.kept hO58.out (fun _ _ h => h))
      have hO15 := Lib.hid (hOs.out.trans' hO58.out)
      clear hW8 hO8
      go_wp2
      go_loopw [145] (fun i wr => ∃ m : Nat, m ≤ fn ∧ i = .int .i64 m ∧ Only (fun _ => False) w5 wr) (fun i _ => fn - (intOf i).toNat)
      case atStart => exact ⟨0, Nat.zero_le _, rfl, Only.refl _ _⟩
      case round =>
        obtain ⟨m, hm, rfl, hOm⟩ := hrel
        obtain ⟨w6, hw6⟩ : ∃ ws : World, ws = wr := ⟨_, rfl⟩
        subst hw6
        have hOm' := Lib.hid hOm
        have hA7 := Lib.hid (hW7''.out.kept hOm (fun _ _ h => h))
        have hAF := Lib.hid (hWF'.out.kept hOm (fun _ _ h => h))
        clear hOm
        by_cases hmn : m < fn
        · have hmn' : (m : Int) < (fn : Int) := by omega
          obtain ⟨f, hf⟩ : ∃ f, F[m]? = some f := ⟨_, List.getElem?_eq_getElem (by have := hfn'.out; omega)⟩
          obtain ⟨hf1, hf2⟩ := flagCells_at F m f hf
          obtain ⟨g1, o1, k1, -, hv1, -, -, hl1, hc1, -⟩ := hA7.out.at_ (by omega)
          obtain ⟨g2, o2, k2, -, hv2, -, -, hl2, hc2, -⟩ := hAF.out.at_ (by omega)
          cases hv1
          cases hv2
          have x0 := hc1 _ _ hf1
          have x1 := hc1 _ _ hf2
          have y0 := hc2 _ _ hf1
          have y1 := hc2 _ _ hf2
          rw [← Nat.add_assoc] at x1 y1
          obtain ⟨fa, fb⟩ := f
          dsimp only at x0 x1 y0 y1
          clear hc1 hc2 hf hf1 hf2
          go_upto_region 27 with fail
          go_quiet (fail)
          go_wp2
          go_roundw
          case rel => exact ⟨m + 1, by omega, by go_num, hOm'.out.drewN _⟩
          case measure => simp [intOf]; omega
        · have hmn2 : m = fn := by omega
          have hmn' : ¬ (m : Int) < (fn : Int) := by omega
          clear hmn2 hmn
          go_wp2
          go_loopw [160] (fun i wr => ∃ m : Nat, m ≤ gn ∧ i = .int .i64 m ∧ Only (fun _ => False) w6 wr) (fun i _ => gn - (intOf i).toNat)
          case atStart => exact ⟨0, Nat.zero_le _, rfl, Only.refl _ _⟩
          case round =>
            obtain ⟨m2, hm2, rfl, hO2m⟩ := hrel
            obtain ⟨w7, hw7⟩ : ∃ ws : World, ws = wr := ⟨_, rfl⟩
            subst hw7
            have hOm2 := Lib.hid hO2m
            have hOm5 := Lib.hid (hOm'.out.trans' hO2m)
            have hA8 := Lib.hid (hW8'.out.kept hOm5.out (fun _ _ h => h))
            have hAG := Lib.hid (hWG'.out.kept hOm5.out (fun _ _ h => h))
            have hAF7 := Lib.hid (hWF'.out.kept hOm5.out (fun _ _ h => h))
            clear hO2m
            by_cases hmn : m2 < gn
            · have hmn2 : (m2 : Int) < (gn : Int) := by omega
              obtain ⟨z, hz⟩ : ∃ z, G[m2]? = some z := ⟨_, List.getElem?_eq_getElem (by have := hgn'.out; omega)⟩
              have hz2 : (G.map mkI)[m2]? = some (.int .i64 z) := by rw [List.getElem?_map, hz]; rfl
              obtain ⟨g1, o1, k1, -, hv1, -, -, hl1, hc1, -⟩ := hA8.out.at_ (by omega)
              obtain ⟨g2, o2, k2, -, hv2, -, -, hl2, hc2, -⟩ := hAG.out.at_ (by omega)
              cases hv1
              cases hv2
              have x0 := hc1 _ _ hz2
              have y0 := hc2 _ _ hz2
              clear hc1 hc2 hz hz2
              go_upto_region 33 with fail
              go_quiet (fail)
              go_wp2
              go_roundw
              case rel => exact ⟨m2 + 1, by omega, by go_num, hOm2.out.drewN _⟩
              case measure => simp [intOf]; omega
            · have hmn3 : m2 = gn := by omega
              have hmn2 : ¬ (m2 : Int) < (gn : Int) := by omega
              clear hmn3 hmn
              have hO17 := Lib.hid (hO15.out.trans' hOm5.out)
              have hbox7 := Lib.hid (((hO58.out.trans' hOm5.out)).heap hbox.out (fun h => h))
              have d0 := row_cell hbox7.out (i := 0) rfl
              have d1 := row_cell hbox7.out (i := 1) rfl
              have d2 := row_cell hbox7.out (i := 2) rfl
              have d3 := row_cell hbox7.out (i := 3) rfl
              have d4 := row_cell hbox7.out (i := 4) rfl
              have d5 := row_cell hbox7.out (i := 5) rfl
              have d6 := row_cell hbox7.out (i := 6) rfl
              have d7 := row_cell hbox7.out (i := 7) rfl
              have d8 := row_cell hbox7.out (i := 8) rfl
              have d9 := row_cell hbox7.out (i := 9) rfl
              have hlb := row_lt hbox7.out
              go_wp2_with fail
              refine (q9.out _ hO17.out).mono ?_
              rintro e w8 ⟨rfl, hO8⟩
              have hAF8 := Lib.hid (hAF7.out.kept hO8 (fun _ _ h => h))
              have hO18 := Lib.hid (hO17.out.trans' hO8)
              clear d0 d1 d2 d3 d4 d5 d6 d7 d8 d9 hlb hO8
              unfold firstV
              cases F with
              | nil =>
                obtain rfl : fn = 0 := hfn'.out
                simp only [List.head?_nil, Option.getD_none, List.isEmpty_nil, Bool.not_true]
                go_upto_region 37 with fail
                go_quiet (fail)
                go_wp2
                go_ret
                exact ⟨rfl, hO'.out.trans' ((hO18.out.alloc _).drewN _)⟩
              | cons f F' =>
                have hfp : 0 < fn := by rw [hfn'.out]; simp
                have hfp' : (0 : Int) < (fn : Int) := by omega
                obtain ⟨hf1, hf2⟩ := flagCells_at (f :: F') 0 f rfl
                obtain ⟨g2, o2, k2, -, hv2, -, -, hl2, hc2, -⟩ := hAF8.out.at_ hfp
                cases hv2
                have y0 := hc2 _ _ hf1
                have y1 := hc2 _ _ hf2
                rw [Nat.zero_mul, Nat.add_zero] at y0
                rw [Nat.zero_mul, Nat.zero_add] at y1
                obtain ⟨fa, fb⟩ := f
                simp only [List.head?_cons, Option.getD_some, List.isEmpty_cons, Bool.not_false]
                dsimp only at y0 y1
                clear hc2 hf1 hf2
                go_upto_region 37 with fail
                go_quiet (fail)
                go_wp2
                go_ret
                exact ⟨rfl, hO'.out.trans' ((hO18.out.alloc _).drewN _)⟩
      -- E]
end Go.Proofs.Ythippdgmbfaijaa
