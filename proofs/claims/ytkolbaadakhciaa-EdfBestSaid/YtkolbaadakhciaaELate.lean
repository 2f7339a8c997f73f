/- edf: who is late. -/
import Derived.Test.YtkolbaadakhciaaERun
namespace Go.Proofs.Ytkolbaadakhciaa
namespace Edf
open Go Go.RowKit

def lateTo (l : List Wk) (E : List Nat) (k : Nat) : List Nat := (List.range k).filter fun i => decide (du l i < E.getD i 0)
theorem lateTo_succ (l : List Wk) (E : List Nat) (k : Nat) : lateTo l E (k + 1) = if du l k < E.getD k 0 then lateTo l E k ++ [k] else lateTo l E k := by
  unfold lateTo
  rw [List.range_succ, List.filter_append]
  by_cases h : du l k < E.getD k 0
  · rw [if_pos h, List.filter_cons, if_pos (decide_eq_true h)]; rfl
  · rw [if_neg h, List.filter_cons, if_neg (by rw [decide_eq_false h]; simp), List.filter_nil, List.append_nil]
theorem lateTo_len (l : List Wk) (E : List Nat) (k : Nat) : (lateTo l E k).length ≤ k := by
  unfold lateTo
  exact Nat.le_trans (List.length_filter_le _ _) (by simp)
theorem lateTo_none {l : List Wk} {E : List Nat} {k : Nat} (h : ∀ i, i < k → E.getD i 0 ≤ du l i) : lateTo l E k = [] := by
  unfold lateTo
  rw [List.filter_eq_nil_iff]
  intro i hi
  have := h i (by simpa using hi)
  rw [decide_eq_false (by omega)]
  simp
def LateEnd (w : World) (l : List Wk) (e : Ending) (w' : World) : Prop :=
  ∃ v h E, e = .returned v ∧ Win w' 3 1 v h (lateTo l E l.length).length (dat (lateTo l E l.length)) ∧ E.length = l.length ∧ (∀ i, i < l.length → ∃ e, E[i]? = some e ∧ FinAt l i e) ∧ Only (fun _ => False) w w'

set_option maxRecDepth 100000 in
set_option maxHeartbeats 4000000 in
theorem late_any {N : Nat} (hS : Sorts N) {A : Option Addr} {n cap : Nat} {raws : List RW} {w : World} (hr : WRow w A raws) (hn : raws.length = n) (hnN : n ≤ N) (hn9 : n ≤ 3900) :
    Calls Try.prog 26 #[.slice A n cap] w (LateEnd w (raws.map clampW)) := by
  obtain ⟨Z, hZ⟩ : ∃ Z, Z = LateEnd w (raws.map clampW) := ⟨_, rfl⟩
  rw [← hZ]
  have hZ' := Lib.hid hZ
  obtain ⟨l, hl⟩ : ∃ l, l = raws.map clampW := ⟨_, rfl⟩
  have hll : l.length = n := by rw [hl, List.length_map, hn]
  have hld : ∀ k x, raws[k]? = some x → du l k = near x.d := fun k x hx => by
    unfold du
    rw [hl, List.getElem?_map, hx]
    rfl
  have qr := Lib.hid (show Calls Try.prog 25 #[.slice A n cap] w (RunEnd w l) from by rw [hl]; exact run_any hS hr hn hnN hn9)
  have hr' := Lib.hid hr
  have hn' := Lib.hid hn
  have hll' := Lib.hid hll
  have hld' := Lib.hid hld
  rw [← hl] at hZ'
  have qn := Lib.hid near_any
  clear hZ hr hn hl hll hld hS
  go_enter Try.func26, Try.ntmps26
  go_wp2_with fail
  refine qr.out.mono ?_
  rintro e w1 ⟨X, E, rfl, hX, hXb, hEl, hfin, hO1⟩
  rw [hll'.out] at hEl ⊢
  have hXb' := Lib.hid hXb
  have hEl' := Lib.hid hEl
  have hf' := Lib.hid hfin
  have hO1' := Lib.hid hO1
  have hXl := Lib.hid (row_lt hXb)
  clear hX hXb hEl hfin hO1 qr
  go_wp2
  go_loopw [3, 4, 5, 9] (fun v _ _ i wr => ∃ (k : Nat) (h : Option Nat), i = .int .i64 k ∧ k ≤ n ∧ Hid (Win wr 3 1 v h (lateTo l E k).length (dat (lateTo l E k))) ∧ Hid (∀ g, h = some g → w1.heap.size ≤ g) ∧ Hid (Only (fun _ => False) w1 wr)) (fun _ _ _ i _ => (n - intOf i).toNat)
  case atStart => exact ⟨0, none, rfl, Nat.zero_le _, Win.nil _ _ _, Lib.hid (fun g h => by cases h), Only.refl _ _⟩
  case round =>
    obtain ⟨k, h, rfl, hk, hW, hf, hO⟩ := hrel
    obtain ⟨P, cp, hv, hcap, hcm⟩ := hW.out.form
    subst hv
    by_cases hkn : k < n
    · have hkn' : (k : Int) < n := by omega
      obtain ⟨x, hx⟩ : ∃ y, raws[k]? = some y := ⟨_, List.getElem?_eq_getElem (by have := hn'.out; omega)⟩
      obtain ⟨b, off, rfl, hb, c0, c1, c2⟩ := (hr'.out.new (hO1'.out.trans' hO.out)) k x hx
      obtain ⟨u, hu⟩ : ∃ u, E[k]? = some u := ⟨_, List.getElem?_eq_getElem (by have := hEl'.out; omega)⟩
      have e0 := row_cell (hO.out.heap hXb'.out (fun h => h)) (dat_at hu)
      have hbt := lateTo_succ l E k
      have hgu : E.getD k 0 = u := by rw [List.getD_eq_getElem?_getD, hu]; rfl
      rw [hgu, hld'.out k x hx] at hbt
      have hbl := lateTo_len l E k
      have qd := Lib.hid (fun W => qn.out x.d W)
      obtain ⟨d, hd⟩ : ∃ d, d = near x.d := ⟨_, rfl⟩
      rw [← hd] at hbt qd
      have hbt' := Lib.hid hbt
      obtain ⟨m, hm⟩ : ∃ m, m = (lateTo l E k).length := ⟨_, rfl⟩
      obtain ⟨B, hB⟩ : ∃ B, B = lateTo l E k := ⟨_, rfl⟩
      rw [← hm, ← hB] at hW
      rw [← hm] at hbl hcap ⊢
      rw [← hB] at hbt' hm
      have hm' := Lib.hid hm
      clear hx hu hgu hbt hB hm hd c0 c1
      by_cases hc : d < u
      · have hc' : (d : Int) < (u : Int) := by omega
        rw [if_pos hc] at hbt'
        go_wp2_with (first | (go_at_call 36; refine (qd.out _).mono ?_; rintro e w9 ⟨rfl, hw⟩; subst hw) | (at_builtin; (refine wpList_append_win rfl _ _ 44 rfl 3 (Value.int .i64 0) 1 8 Try.underlying44 info3 rfl (by decide) rfl (hW.out.kept ((Only.refl (fun _ => False) _).alloc _) (fun _ _ h => h)) _ 1 1 rfl [.int .i64 (k : Int)] rfl (fun _ => ⟨_, rfl, row_one (heap_new_at _ _ (by simp))⟩) (by simp [Value.oneCell']) (by unfold maxLen; omega) (by omega) ?_; intro v4 w6 h4 hW4 hO4 hh4; have hst := Lib.hid (step_fresh (hO.out.alloc (.cells #[.int .i64 (k : Int)] 3)) hO4.out hf.out hh4.out))))
        go_roundw
        case rel =>
          refine ⟨k + 1, h4, by go_num, by omega, ?_, Lib.hid hst.out.2, Lib.hid hst.out.1⟩
          rw [hbt'.out, List.length_append, dat_append, ← hm'.out]
          exact hW4
        case measure => simp [intOf]; omega
      · have hc' : ¬ (d : Int) < (u : Int) := by omega
        rw [if_neg hc] at hbt'
        go_wp2_with (go_at_call 36; refine (qd.out _).mono ?_; rintro e w9 ⟨rfl, hw⟩; subst hw)
        go_roundw
        case rel =>
          refine ⟨k + 1, h, by go_num, by omega, ?_, hf, hO⟩
          rw [hbt'.out, ← hm'.out]
          exact hW
        case measure => simp [intOf]; omega
    · obtain rfl : k = n := by omega
      obtain ⟨m, hm⟩ : ∃ m, m = (lateTo l E k).length := ⟨_, rfl⟩
      rw [← hm] at hW hcap ⊢
      have hfin := Lib.hid (show Z (.returned (.slice P m cp)) wr from by
        rw [hZ'.out]
        refine ⟨_, h, E, rfl, ?_, by rw [hEl'.out, hll'.out], hf'.out, hO1'.out.trans' hO.out⟩
        rw [hll'.out, ← hm]
        exact hW.out)
      clear hm
      go_wp2
      exact hfin.out
end Edf
end Go.Proofs.Ytkolbaadakhciaa
