/- edf: whose each tick is. -/
import Derived.Test.YtkolbaadakhciaaERep
namespace Go.Proofs.Ytkolbaadakhciaa
namespace Edf
open Go Go.RowKit

/-- Whose a tick is by the stretches told; -1: nobody's. -/
def col (S : List Str) (j : Nat) : Int := match S.find? (fun s => decide (s.f ≤ j ∧ j < s.e)) with | some s => (s.p : Int) | none => -1
def ordZ (l : List Wk) (j : Nat) : Int := match goes l j with | some p => (p : Int) | none => -1
theorem col_take {l : List Wk} {t : Nat} {S : List Str} (h : Told l t S) {k : Nat} {s : Str} (hs : S[k]? = some s) (j : Nat) : col (S.take (k + 1)) j = if s.f ≤ j ∧ j < s.e then (s.p : Int) else col (S.take k) j := by
  have htk : S.take (k + 1) = S.take k ++ [s] := by rw [List.take_add_one, hs]; rfl
  have hrow : ∀ a ∈ S.take k, a.e ≤ s.f := by
    have h1 : (S.take k ++ [s]).Pairwise fun a b => a.e ≤ b.f := by rw [← htk]; exact h.row.sublist (List.take_sublist _ _)
    exact fun a ha => (List.pairwise_append.1 h1).2.2 a ha s (by simp)
  unfold col
  rw [htk, List.find?_append]
  cases hf : (S.take k).find? (fun s => decide (s.f ≤ j ∧ j < s.e)) with
  | some a =>
    have h1 : a.f ≤ j ∧ j < a.e := by simpa using List.find?_some hf
    have h2 := hrow a (List.mem_of_find?_eq_some hf)
    rw [if_neg (by omega)]
    rfl
  | none =>
    by_cases hc : s.f ≤ j ∧ j < s.e
    · rw [if_pos hc, List.find?_cons_of_pos (by exact decide_eq_true hc)]
      rfl
    · rw [if_neg hc, List.find?_cons_of_neg (by rw [decide_eq_false hc]; simp)]
      rfl
theorem col_all {l : List Wk} {t : Nat} {S : List Str} (h : Told l t S) (hz : ∀ q, q < l.length → lef l t q = 0) (j : Nat) : col S j = ordZ l j := by
  unfold col ordZ
  cases hf : S.find? (fun s => decide (s.f ≤ j ∧ j < s.e)) with
  | some s =>
    have h1 : s.f ≤ j ∧ j < s.e := by simpa using List.find?_some hf
    rw [(h.ok s (List.mem_of_find?_eq_some hf)).2.2.2 j h1.1 h1.2]
  | none =>
    cases hg : goes l j with
    | none => rfl
    | some p =>
      exfalso
      obtain ⟨g1, -, g3, -⟩ := goes_some hg
      have hjt : j < t := by
        rcases Nat.lt_or_ge j t with h1 | h1
        · exact h1
        · have := lef_mono l h1 p
          have := hz p g1
          omega
      obtain ⟨s, hs, -, h2, h3⟩ := h.all j hjt p hg
      have h4 := List.find?_eq_none.1 hf s hs
      simp only [decide_eq_true_eq] at h4
      exact h4 ⟨h2, h3⟩
theorem paint {T j p f : Nat} {c : Nat → Int} (hj : f ≤ j) : ((List.range T).map fun i => Value.int .i64 (if f ≤ i ∧ i < j then (p : Int) else c i)).set j (.int .i64 (p : Int)) = (List.range T).map fun i => Value.int .i64 (if f ≤ i ∧ i < j + 1 then (p : Int) else c i) := by
  apply List.ext_getElem?
  intro i
  rw [List.getElem?_set]
  by_cases e : j = i
  · subst e
    rw [if_pos rfl]
    by_cases hT : j < T
    · rw [if_pos (by simpa using hT), List.getElem?_map, List.getElem?_range hT]
      show _ = some (Value.int .i64 (if f ≤ j ∧ j < j + 1 then (p : Int) else c j))
      rw [if_pos ⟨hj, by omega⟩]
    · rw [if_neg (by simpa using hT), List.getElem?_eq_none (by simpa using hT)]
  · rw [if_neg e, List.getElem?_map, List.getElem?_map]
    by_cases hT : i < T
    · rw [List.getElem?_range hT]
      show some (Value.int .i64 (if f ≤ i ∧ i < j then (p : Int) else c i)) = some (Value.int .i64 (if f ≤ i ∧ i < j + 1 then (p : Int) else c i))
      by_cases hc : f ≤ i ∧ i < j
      · rw [if_pos hc, if_pos (by omega)]
      · rw [if_neg hc, if_neg (by omega)]
    · rw [List.getElem?_eq_none (by simpa using hT)]
      rfl

def OrdEnd (w : World) (l : List Wk) (T : Nat) (e : Ending) (w' : World) : Prop :=
  ∃ X, e = .returned (.slice (some ⟨X, 0, none⟩) T T) ∧ w.heap.size ≤ X ∧ w'.heap[X]? = some (.cells ((List.range T).map fun i => Value.int .i64 (ordZ l i)).toArray 3 (0, 0)) ∧ Only (fun _ => False) w w'

set_option maxRecDepth 100000 in
set_option maxHeartbeats 4000000 in
theorem order_any {N : Nat} (hS : Sorts N) {A : Option Addr} {n cap T : Nat} {raws : List RW} {w : World} (hr : WRow w A raws) (hn : raws.length = n) (hnN : n ≤ N) (hn9 : n ≤ 3900) (hT : T ≤ 4096) :
    Calls Try.prog 27 #[.slice A n cap, .int .i64 (T : Int)] w (OrdEnd w (raws.map clampW) T) := by
  obtain ⟨Z, hZ⟩ : ∃ Z, Z = OrdEnd w (raws.map clampW) T := ⟨_, rfl⟩
  rw [← hZ]
  have hZ' := Lib.hid hZ
  obtain ⟨l, hl⟩ : ∃ l, l = raws.map clampW := ⟨_, rfl⟩
  have hll : l.length = n := by rw [hl, List.length_map, hn]
  have qst := Lib.hid (fun W (ho : Only (fun _ => False) w W) => show Calls Try.prog 37 #[.slice A n cap] W (StEnd W l) from by rw [hl]; exact stretches_any hS (hr.new ho) hn hnN hn9)
  have hll' := Lib.hid hll
  rw [← hl] at hZ'
  obtain ⟨W1, hW1⟩ : ∃ W1, W1 = w.alloc (.cells #[.int .i64 (-1)] 3) := ⟨_, rfl⟩
  obtain ⟨q, hq⟩ : ∃ X, X = w.heap.size := ⟨_, rfl⟩
  have s0 : W1.heap[q]? = some (.cells [Value.int .i64 (-1)].toArray 3 (0, 0)) := by rw [hW1]; exact heap_new_at _ _ hq.symm
  have hO1 : Only (fun _ => False) w W1 := by rw [hW1]; exact (Only.refl _ w).alloc _
  have qrep := Lib.hid (rep_any (c := 1) (row_cell s0 (i := 0) rfl) hT)
  have hO1' := Lib.hid hO1
  have hW1' := Lib.hid hW1
  have hq' := Lib.hid hq
  have ht0 : ¬ (T : Int) < 0 := by omega
  have ht1 : ¬ (4096 : Int) < (T : Int) := by omega
  clear hZ hr hn hl hll hS hW1 hq s0 hO1
  go_enter Try.func27, Try.ntmps27
  go_wp2_with fail
  rw [← hq'.out]
  rw [← hW1'.out]
  refine qrep.out.mono ?_
  rintro e W2 ⟨X, rfl, hX, hXb, hO2⟩
  have q2 := Lib.hid (qst.out W2 (hO1'.out.trans' hO2))
  have hXl := row_lt hXb
  have hXw := Lib.hid (show w.heap.size ≤ X from by have := hO1'.out.size; omega)
  have hOw2 := Lib.hid (hO1'.out.trans' hO2)
  have hXb' := Lib.hid hXb
  clear qst qrep hX hXb hO2
  go_wp2_with fail
  refine q2.out.mono ?_
  rintro e W3 ⟨v, h, S, t, rfl, hW, hh, hTd, hz, hSl, hO3⟩
  obtain ⟨P, cp, hv, hcp, hcm⟩ := hW.form
  subst hv
  obtain ⟨sn, hsn⟩ : ∃ s, s = S.length := ⟨_, rfl⟩
  rw [← hsn] at hcp hW ⊢
  have hne := Lib.hid (show ∀ g, h = some g → g ≠ X from fun g hg e => by have := hh g hg; omega)
  have hB3 := Lib.hid (show W3.heap[X]? = some (.cells ((List.range T).map fun i => Value.int .i64 (col (S.take 0) i)).toArray 3 (0, 0)) from by
    rw [hO3.heap hXb'.out (fun h => h)]
    have : (List.range T).map (fun i => Value.int .i64 (col (S.take 0) i)) = List.replicate T (Value.int .i64 (-1)) := by
      rw [List.take_zero]
      exact List.eq_replicate_iff.2 ⟨by simp, fun b hb => by
        obtain ⟨i, -, rfl⟩ := List.mem_map.1 hb
        rfl⟩
    rw [this])
  have hW' := Lib.hid hW
  have hTd' := Lib.hid hTd
  have hz' := Lib.hid hz
  have hsn' := Lib.hid hsn
  have hOw3 := Lib.hid (hOw2.out.trans' hO3)
  have hsn9 : sn ≤ 1048576 * 3900 := by have := hll'.out; omega
  clear hW hh hTd hz hsn hO3 hSl hXl hXb' q2 hOw2
  go_wp2
  go_loopw [7, 8, 21] (fun _ _ i wr => ∃ k2 : Nat, i = .int .i64 (k2 : Int) ∧ k2 ≤ sn ∧ Hid (wr.heap[X]? = some (.cells ((List.range T).map fun i => Value.int .i64 (col (S.take k2) i)).toArray 3 (0, 0))) ∧ Hid (Only (fun k => k = X) W3 wr)) (fun _ _ i _ => (sn - intOf i).toNat)
  case atStart => exact ⟨0, rfl, Nat.zero_le _, hB3, Only.refl _ _⟩
  case round =>
    obtain ⟨k2, rfl, hk2, hB, hO⟩ := hrel
    by_cases hks : k2 < sn
    · have hks' : (k2 : Int) < sn := by omega
      obtain ⟨s, hs⟩ : ∃ y, S[k2]? = some y := ⟨_, List.getElem?_eq_getElem (by have := hsn'.out; omega)⟩
      have hWr := hW'.out.kept hO.out (fun g hg e => hne.out g hg e)
      rw [hsn'.out] at hWr
      obtain ⟨g, off, cap2, hg, hPv, -, -, hi, hgl, hcell, -⟩ := Krn.win_row (f := Str.cells) str_len hWr hs
      rw [← hsn'.out] at hPv
      cases hPv
      have c0 := hcell 0 _ rfl
      have c1 := hcell 1 _ rfl
      have c2 := hcell 2 _ rfl
      rw [Nat.add_zero] at c0
      have hsf := (hTd'.out.ok s (List.mem_of_getElem? hs)).1
      have hcol := Lib.hid (fun i => col_take hTd'.out hs i)
      obtain ⟨W4, hW4⟩ : ∃ W4, W4 = wr.alloc (.cells #[.int .i64 (s.p : Int), .int .i64 (s.f : Int), .int .i64 (s.e : Int)] 71) := ⟨_, rfl⟩
      obtain ⟨Y, hY⟩ : ∃ Y, Y = wr.heap.size := ⟨_, rfl⟩
      have y4 : W4.heap[Y]? = some (.cells [Value.int .i64 (s.p : Int), .int .i64 (s.f : Int), .int .i64 (s.e : Int)].toArray 71 (0, 0)) := by rw [hW4]; exact heap_new_at _ _ hY.symm
      have hO4 := Lib.hid (show Only (fun k => k = X) W3 W4 from by rw [hW4]; exact hO.out.alloc _)
      have hB4 := Lib.hid (show W4.heap[X]? = some (.cells ((List.range T).map fun i => Value.int .i64 (col (S.take k2) i)).toArray 3 (0, 0)) from by rw [hW4]; exact heap_kept_alloc hB.out _)
      have hYX : Y ≠ X := fun e => by have := row_lt hB.out; omega
      have y4' := Lib.hid y4
      have x1 := row_cell y4 (i := 1) rfl
      have hW4' := Lib.hid hW4
      have hY' := Lib.hid hY
      clear hs hWr hcell hW4 hY y4 hgl hi hB hO
      go_upto_region 7 with fail
      rw [← hY'.out]
      rw [← hW4'.out]
      clear c0 c1 c2
      by_cases hlt : s.e < T
      · have hlt' : (s.e : Int) < (T : Int) := by omega
        have hMe := Lib.hid (show ∀ i, i < T → (i < s.e ↔ i < s.e) from fun i _ => Iff.rfl)
        go_wp2
        go_loopw [8] (fun u wq => ∃ j : Nat, u = .int .i64 (j : Int) ∧ s.f ≤ j ∧ (j ≤ s.e ∨ j = s.f) ∧ Hid (wq.heap[X]? = some (.cells ((List.range T).map fun i => Value.int .i64 (if s.f ≤ i ∧ i < j then (s.p : Int) else col (S.take k2) i)).toArray 3 (0, 0))) ∧ Hid (Only (fun k => k = X) W4 wq)) (fun u _ => s.e - (intOf u).toNat)
        case atStart => exact ⟨s.f, rfl, Nat.le_refl _, .inr rfl, Lib.hid (by
          have h1 := hB4.out
          rw [show (fun i => Value.int .i64 (if s.f ≤ i ∧ i < s.f then (s.p : Int) else col (S.take k2) i)) = fun i => Value.int .i64 (col (S.take k2) i) from funext fun i => by rw [if_neg (by omega)]]
          exact h1), Only.refl _ _⟩
        case round =>
          obtain ⟨j, rfl, hj1, hj2, hBj, hOj⟩ := hrel
          have z0 := row_cell (hOj.out.heap y4'.out hYX) (i := 0) rfl
          have z2 := row_cell (hOj.out.heap y4'.out hYX) (i := 2) rfl
          by_cases hjM : j < s.e
          · have hjM' : (j : Int) < (s.e : Nat) := by omega
            have hjT : j < T := by omega
            have hjT' : (j : Int) < T := by omega
            have e0 := row_cell hBj.out (i := j) (v := Value.int .i64 (if s.f ≤ j ∧ j < j then (s.p : Int) else col (S.take k2) j)) (by rw [List.getElem?_map, List.getElem?_range hjT]; rfl)
            have e1 := row_free hBj.out j
            have hset := Lib.hid (show (wr.setCell ⟨X, j, none⟩ (.int .i64 (s.p : Int))).heap[X]? = some (.cells ((List.range T).map fun i => Value.int .i64 (if s.f ≤ i ∧ i < j + 1 then (s.p : Int) else col (S.take k2) i)).toArray 3 (0, 0)) from by
              rw [row_set hBj.out j (.int .i64 (s.p : Int)), paint hj1])
            have hOv := Lib.hid (show Only (fun k => k = X) W4 (wr.setCell ⟨X, j, none⟩ (.int .i64 (s.p : Int))) from hOj.out.setCell (p := ⟨X, j, none⟩) (fun _ => rfl) _)
            go_wp2
            go_roundw
            case rel => exact ⟨j + 1, by go_num, by omega, .inl (by omega), hset, hOv⟩
            case measure => simp [intOf]; omega
          · have hjM' : ¬ (j : Int) < (s.e : Nat) := by omega
            have hnext := Lib.hid (show wr.heap[X]? = some (.cells ((List.range T).map fun i => Value.int .i64 (col (S.take (k2 + 1)) i)).toArray 3 (0, 0)) from by
              rw [hBj.out]
              refine congrArg some ?_
              have : ((List.range T).map fun i => Value.int .i64 (if s.f ≤ i ∧ i < j then (s.p : Int) else col (S.take k2) i)) = (List.range T).map fun i => Value.int .i64 (col (S.take (k2 + 1)) i) := List.map_congr_left fun i hi => by
                have hiT : i < T := by simpa using hi
                rw [hcol.out i]
                have : (s.f ≤ i ∧ i < j) ↔ (s.f ≤ i ∧ i < s.e) := by have := hMe.out i hiT; omega
                by_cases hc : s.f ≤ i ∧ i < j
                · rw [if_pos hc, if_pos (this.1 hc)]
                · rw [if_neg hc, if_neg (fun h => hc (this.2 h))]
              rw [this])
            have hOn := Lib.hid (hO4.out.trans' hOj.out)
            go_wp2
            go_roundw
            case rel => exact ⟨k2 + 1, by go_num, by omega, hnext, hOn⟩
            case measure => simp [intOf]; omega
      · by_cases heq : T = s.e
        · subst heq
          have hMe := Lib.hid (show ∀ i, i < s.e → (i < s.e ↔ i < s.e) from fun i _ => Iff.rfl)
          go_wp2
          go_loopw [8] (fun u wq => ∃ j : Nat, u = .int .i64 (j : Int) ∧ s.f ≤ j ∧ (j ≤ s.e ∨ j = s.f) ∧ Hid (wq.heap[X]? = some (.cells ((List.range s.e).map fun i => Value.int .i64 (if s.f ≤ i ∧ i < j then (s.p : Int) else col (S.take k2) i)).toArray 3 (0, 0))) ∧ Hid (Only (fun k => k = X) W4 wq)) (fun u _ => s.e - (intOf u).toNat)
          case atStart => exact ⟨s.f, rfl, Nat.le_refl _, .inr rfl, Lib.hid (by
            have h1 := hB4.out
            rw [show (fun i => Value.int .i64 (if s.f ≤ i ∧ i < s.f then (s.p : Int) else col (S.take k2) i)) = fun i => Value.int .i64 (col (S.take k2) i) from funext fun i => by rw [if_neg (by omega)]]
            exact h1), Only.refl _ _⟩
          case round =>
            obtain ⟨j, rfl, hj1, hj2, hBj, hOj⟩ := hrel
            have z0 := row_cell (hOj.out.heap y4'.out hYX) (i := 0) rfl
            have z2 := row_cell (hOj.out.heap y4'.out hYX) (i := 2) rfl
            by_cases hjM : j < s.e
            · have hjM' : (j : Int) < (s.e : Nat) := by omega
              have hjT : j < s.e := by omega
              have hjT' : (j : Int) < s.e := by omega
              have e0 := row_cell hBj.out (i := j) (v := Value.int .i64 (if s.f ≤ j ∧ j < j then (s.p : Int) else col (S.take k2) j)) (by rw [List.getElem?_map, List.getElem?_range hjT]; rfl)
              have e1 := row_free hBj.out j
              have hset := Lib.hid (show (wr.setCell ⟨X, j, none⟩ (.int .i64 (s.p : Int))).heap[X]? = some (.cells ((List.range s.e).map fun i => Value.int .i64 (if s.f ≤ i ∧ i < j + 1 then (s.p : Int) else col (S.take k2) i)).toArray 3 (0, 0)) from by
                rw [row_set hBj.out j (.int .i64 (s.p : Int)), paint hj1])
              have hOv := Lib.hid (show Only (fun k => k = X) W4 (wr.setCell ⟨X, j, none⟩ (.int .i64 (s.p : Int))) from hOj.out.setCell (p := ⟨X, j, none⟩) (fun _ => rfl) _)
              go_wp2
              go_roundw
              case rel => exact ⟨j + 1, by go_num, by omega, .inl (by omega), hset, hOv⟩
              case measure => simp [intOf]; omega
            · have hjM' : ¬ (j : Int) < (s.e : Nat) := by omega
              have hnext := Lib.hid (show wr.heap[X]? = some (.cells ((List.range s.e).map fun i => Value.int .i64 (col (S.take (k2 + 1)) i)).toArray 3 (0, 0)) from by
                rw [hBj.out]
                refine congrArg some ?_
                have : ((List.range s.e).map fun i => Value.int .i64 (if s.f ≤ i ∧ i < j then (s.p : Int) else col (S.take k2) i)) = (List.range s.e).map fun i => Value.int .i64 (col (S.take (k2 + 1)) i) := List.map_congr_left fun i hi => by
                  have hiT : i < s.e := by simpa using hi
                  rw [hcol.out i]
                  have : (s.f ≤ i ∧ i < j) ↔ (s.f ≤ i ∧ i < s.e) := by have := hMe.out i hiT; omega
                  by_cases hc : s.f ≤ i ∧ i < j
                  · rw [if_pos hc, if_pos (this.1 hc)]
                  · rw [if_neg hc, if_neg (fun h => hc (this.2 h))]
                rw [this])
              have hOn := Lib.hid (hO4.out.trans' hOj.out)
              go_wp2
              go_roundw
              case rel => exact ⟨k2 + 1, by go_num, by omega, hnext, hOn⟩
              case measure => simp [intOf]; omega
        · have hlt' : (T : Int) < (s.e : Int) := by omega
          have hMe := Lib.hid (show ∀ i, i < T → (i < T ↔ i < s.e) from fun i h => by omega)
          go_wp2
          go_loopw [8] (fun u wq => ∃ j : Nat, u = .int .i64 (j : Int) ∧ s.f ≤ j ∧ (j ≤ T ∨ j = s.f) ∧ Hid (wq.heap[X]? = some (.cells ((List.range T).map fun i => Value.int .i64 (if s.f ≤ i ∧ i < j then (s.p : Int) else col (S.take k2) i)).toArray 3 (0, 0))) ∧ Hid (Only (fun k => k = X) W4 wq)) (fun u _ => T - (intOf u).toNat)
          case atStart => exact ⟨s.f, rfl, Nat.le_refl _, .inr rfl, Lib.hid (by
            have h1 := hB4.out
            rw [show (fun i => Value.int .i64 (if s.f ≤ i ∧ i < s.f then (s.p : Int) else col (S.take k2) i)) = fun i => Value.int .i64 (col (S.take k2) i) from funext fun i => by rw [if_neg (by omega)]]
            exact h1), Only.refl _ _⟩
          case round =>
            obtain ⟨j, rfl, hj1, hj2, hBj, hOj⟩ := hrel
            have z0 := row_cell (hOj.out.heap y4'.out hYX) (i := 0) rfl
            have z2 := row_cell (hOj.out.heap y4'.out hYX) (i := 2) rfl
            by_cases hjM : j < T
            · have hjM' : (j : Int) < (T : Nat) := by omega
              have hjT : j < T := by omega
              have hjT' : (j : Int) < (T : Nat) := by omega
              have e0 := row_cell hBj.out (i := j) (v := Value.int .i64 (if s.f ≤ j ∧ j < j then (s.p : Int) else col (S.take k2) j)) (by rw [List.getElem?_map, List.getElem?_range hjT]; rfl)
              have e1 := row_free hBj.out j
              have hset := Lib.hid (show (wr.setCell ⟨X, j, none⟩ (.int .i64 (s.p : Int))).heap[X]? = some (.cells ((List.range T).map fun i => Value.int .i64 (if s.f ≤ i ∧ i < j + 1 then (s.p : Int) else col (S.take k2) i)).toArray 3 (0, 0)) from by
                rw [row_set hBj.out j (.int .i64 (s.p : Int)), paint hj1])
              have hOv := Lib.hid (show Only (fun k => k = X) W4 (wr.setCell ⟨X, j, none⟩ (.int .i64 (s.p : Int))) from hOj.out.setCell (p := ⟨X, j, none⟩) (fun _ => rfl) _)
              go_wp2
              go_roundw
              case rel => exact ⟨j + 1, by go_num, by omega, .inl (by omega), hset, hOv⟩
              case measure => simp [intOf]; omega
            · have hjM' : ¬ (j : Int) < (T : Nat) := by omega
              have hnext := Lib.hid (show wr.heap[X]? = some (.cells ((List.range T).map fun i => Value.int .i64 (col (S.take (k2 + 1)) i)).toArray 3 (0, 0)) from by
                rw [hBj.out]
                refine congrArg some ?_
                have : ((List.range T).map fun i => Value.int .i64 (if s.f ≤ i ∧ i < j then (s.p : Int) else col (S.take k2) i)) = (List.range T).map fun i => Value.int .i64 (col (S.take (k2 + 1)) i) := List.map_congr_left fun i hi => by
                  have hiT : i < T := by simpa using hi
                  rw [hcol.out i]
                  have : (s.f ≤ i ∧ i < j) ↔ (s.f ≤ i ∧ i < s.e) := by have := hMe.out i hiT; omega
                  by_cases hc : s.f ≤ i ∧ i < j
                  · rw [if_pos hc, if_pos (this.1 hc)]
                  · rw [if_neg hc, if_neg (fun h => hc (this.2 h))]
                rw [this])
              have hOn := Lib.hid (hO4.out.trans' hOj.out)
              go_wp2
              go_roundw
              case rel => exact ⟨k2 + 1, by go_num, by omega, hnext, hOn⟩
              case measure => simp [intOf]; omega
    · obtain rfl : k2 = sn := by omega
      have hfin := Lib.hid (show Z (.returned (.slice (some ⟨X, 0, none⟩) T T)) wr from by
        rw [hZ'.out]
        have h1 := hB.out
        rw [hsn'.out, List.take_length] at h1
        refine ⟨X, rfl, hXw.out, ?_, ?_⟩
        · rw [h1]
          have : ((List.range T).map fun i => Value.int .i64 (col S i)) = (List.range T).map fun i => Value.int .i64 (ordZ l i) := List.map_congr_left fun i _ => by rw [col_all hTd'.out hz'.out]
          rw [this]
        · exact hOw3.out.trans hO.out (fun x hx e => by have := hXw.out; omega))
      go_wp2
      exact hfin.out
end Edf
end Go.Proofs.Ytkolbaadakhciaa
