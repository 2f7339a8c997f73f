/- Rows that are the same. -/
import Derived.Test.YtbjpnjgkpkfngaaGreatDoorConf8
import Derived.ChangeKeysEq
namespace Go.Proofs.YtbjpnjgkpkfngaaGreatDoor
open Go Go.RowKit

theorem same_lists {α : Type} {l m : List α} (hn : l.length = m.length) (h : ∀ (j : Nat), j < l.length → l[j]? = m[j]?) : l = m := by
  apply List.ext_getElem? 
  intro i
  by_cases hi : i < l.length
  · exact h i hi
  · rw [List.getElem?_eq_none (by omega), List.getElem?_eq_none (by omega)]

set_option maxRecDepth 100000 in
theorem eqInts_any {w : World} {x y : Sl} {l m : List Int} (hl : IntsAt w x l) (hm : IntsAt w y m) (h9 : x.n ≤ 1000000) : Calls Tryz.prog 37 #[.slice x.A x.n x.cap, .slice y.A y.n y.cap] w (GrowB (decide (l = m)) w) := by
  obtain ⟨v, hv⟩ : ∃ v, v = decide (l = m) := ⟨_, rfl⟩
  rw [← hv]
  have hv' := Lib.hid hv
  obtain ⟨A, n, cap⟩ := x
  obtain ⟨B, n2, cap2⟩ := y
  have hl' := Lib.hid hl
  have hm' := Lib.hid hm
  have hln := hl.len
  have hmn := hm.len
  simp only at *
  have hln' := Lib.hid hln
  have hmn' := Lib.hid hmn
  clear hv hl hm hln hmn
  by_cases hn : n = n2
  · subst hn
    go_enter Tryz.func37, Tryz.ntmps37
    go_wp2
    go_loopw [13] (fun i wr => ∃ k : Nat, k ≤ n ∧ i = .int .i64 k ∧ (∀ j : Nat, j < k → l[j]? = m[j]?) ∧ Only (fun _ => False) w wr) (fun i _ => n - (intOf i).toNat)
    case atStart => exact ⟨0, Nat.zero_le _, rfl, (fun j hj => by omega), Only.refl _ w⟩
    case round =>
      obtain ⟨k, hk, rfl, hall, hO⟩ := hrel
      have hall' := Lib.hid hall
      have hO' := Lib.hid hO
      clear hall hO
      by_cases hkn : k < n
      · have hkn' : (k : Int) < (n : Int) := by omega
        obtain ⟨z, hz⟩ : ∃ z, l[k]? = some z := ⟨_, List.getElem?_eq_getElem (by have := hln'.out; omega)⟩
        obtain ⟨u, hu⟩ : ∃ z, m[k]? = some z := ⟨_, List.getElem?_eq_getElem (by have := hmn'.out; omega)⟩
        obtain ⟨b, off, hA, hb, c0⟩ := hl'.out.at_ k z hz
        obtain ⟨b2, off2, hA2, hb2, d0⟩ := hm'.out.at_ k u hu
        simp only at hA hA2
        subst hA
        subst hA2
        replace c0 := hO'.out.cell c0 (fun h => h)
        replace d0 := hO'.out.cell d0 (fun h => h)
        by_cases hzu : z = u
        · subst hzu
          have hnx := Lib.hid (show ∀ j : Nat, j < k + 1 → l[j]? = m[j]? from fun j hj => by
            by_cases hjk : j < k
            · exact hall'.out j hjk
            · obtain rfl : j = k := by omega
              rw [hz, hu])
          have hzb : (z != z) = false := by simp
          clear hz hu
          go_wp2
          go_quiet (fail)
          go_wp2
          go_roundw
          case rel => exact ⟨k + 1, by omega, by go_num, hnx.out, hO'.out.drewN _⟩
          case measure => simp [intOf]; omega
        · have hzb : (z != u) = true := by simp [hzu]
          have hvf := Lib.hid (show v = false by rw [hv'.out]; exact decide_eq_false (fun e => by rw [e, hu] at hz; cases hz; exact hzu rfl))
          clear hz hu
          go_wp2
          go_quiet (fail)
          go_wp2
          go_ret
          exact retg_bool hvf.out.symm (hO'.out.drewN _)
      · obtain rfl : k = n := by omega
        have hvt := Lib.hid (show v = true by rw [hv'.out]; exact decide_eq_true (same_lists (by have := hln'.out; have := hmn'.out; omega) (fun j hj => hall'.out j (by have := hln'.out; omega))))
        go_wp2
        go_ret
        exact retg_bool hvt.out.symm hO'.out
  · have hnb : ((n : Int) != (n2 : Int)) = true := by simp; omega
    have hvf := Lib.hid (show v = false by rw [hv'.out]; exact decide_eq_false (fun e => hn (by rw [← hln'.out, ← hmn'.out, e])))
    go_enter Tryz.func37, Tryz.ntmps37
    go_wp2
    go_ret
    exact retg_bool hvf.out.symm (Only.refl _ w)

set_option maxRecDepth 100000 in
theorem reqInts_any {w : World} {x y : Sl} {l m : List Int} (hl : IntsAt w x l) (hm : IntsAt w y m) (h9 : x.n ≤ 1000000) : Calls Tryz.prog 36 #[.slice x.A x.n x.cap, .slice y.A y.n y.cap] w (GrowB (decide (l = m)) w) := by
  obtain ⟨v, hv⟩ : ∃ v, v = decide (l = m) := ⟨_, rfl⟩
  rw [← hv]
  have hv' := Lib.hid hv
  obtain ⟨A, n, cap⟩ := x
  obtain ⟨B, n2, cap2⟩ := y
  have hl' := Lib.hid hl
  have hm' := Lib.hid hm
  have hln := hl.len
  have hmn := hm.len
  simp only at *
  have hln' := Lib.hid hln
  have hmn' := Lib.hid hmn
  clear hv hl hm hln hmn
  by_cases hn : n = n2
  · subst hn
    go_enter Tryz.func36, Tryz.ntmps36
    go_wp2
    go_loopw [13] (fun i wr => ∃ k : Nat, k ≤ n ∧ i = .int .i64 k ∧ (∀ j : Nat, j < k → l[j]? = m[j]?) ∧ Only (fun _ => False) w wr) (fun i _ => n - (intOf i).toNat)
    case atStart => exact ⟨0, Nat.zero_le _, rfl, (fun j hj => by omega), Only.refl _ w⟩
    case round =>
      obtain ⟨k, hk, rfl, hall, hO⟩ := hrel
      have hall' := Lib.hid hall
      have hO' := Lib.hid hO
      clear hall hO
      by_cases hkn : k < n
      · have hkn' : (k : Int) < (n : Int) := by omega
        obtain ⟨z, hz⟩ : ∃ z, l[k]? = some z := ⟨_, List.getElem?_eq_getElem (by have := hln'.out; omega)⟩
        obtain ⟨u, hu⟩ : ∃ z, m[k]? = some z := ⟨_, List.getElem?_eq_getElem (by have := hmn'.out; omega)⟩
        obtain ⟨b, off, hA, hb, c0⟩ := hl'.out.at_ k z hz
        obtain ⟨b2, off2, hA2, hb2, d0⟩ := hm'.out.at_ k u hu
        simp only at hA hA2
        subst hA
        subst hA2
        replace c0 := hO'.out.cell c0 (fun h => h)
        replace d0 := hO'.out.cell d0 (fun h => h)
        by_cases hzu : z = u
        · subst hzu
          have hnx := Lib.hid (show ∀ j : Nat, j < k + 1 → l[j]? = m[j]? from fun j hj => by
            by_cases hjk : j < k
            · exact hall'.out j hjk
            · obtain rfl : j = k := by omega
              rw [hz, hu])
          have hzb : (z != z) = false := by simp
          clear hz hu
          go_wp2
          go_quiet (fail)
          go_wp2
          go_roundw
          case rel => exact ⟨k + 1, by omega, by go_num, hnx.out, hO'.out.drewN _⟩
          case measure => simp [intOf]; omega
        · have hzb : (z != u) = true := by simp [hzu]
          have hvf := Lib.hid (show v = false by rw [hv'.out]; exact decide_eq_false (fun e => by rw [e, hu] at hz; cases hz; exact hzu rfl))
          clear hz hu
          go_wp2
          go_quiet (fail)
          go_wp2
          go_ret
          exact retg_bool hvf.out.symm (hO'.out.drewN _)
      · obtain rfl : k = n := by omega
        have hvt := Lib.hid (show v = true by rw [hv'.out]; exact decide_eq_true (same_lists (by have := hln'.out; have := hmn'.out; omega) (fun j hj => hall'.out j (by have := hln'.out; omega))))
        go_wp2
        go_ret
        exact retg_bool hvt.out.symm hO'.out
  · have hnb : ((n : Int) != (n2 : Int)) = true := by simp; omega
    have hvf := Lib.hid (show v = false by rw [hv'.out]; exact decide_eq_false (fun e => hn (by rw [← hln'.out, ← hmn'.out, e])))
    go_enter Tryz.func36, Tryz.ntmps36
    go_wp2
    go_ret
    exact retg_bool hvf.out.symm (Only.refl _ w)
end Go.Proofs.YtbjpnjgkpkfngaaGreatDoor
namespace Go.Proofs.YtbjpnjgkpkfngaaGreatDoor
open Go Go.RowKit

instance : DecidableEq Opn := fun a b => by
  cases a; cases b
  rw [Opn.mk.injEq]
  infer_instance
theorem opn_ne {k a b k' a' b' : Int} (h : ¬ (⟨k, a, b⟩ : Opn) = ⟨k', a', b'⟩) : ¬ k = k' ∨ (k = k' ∧ ¬ a = a') ∨ (k = k' ∧ a = a' ∧ ¬ b = b') := by
  rw [Opn.mk.injEq] at h
  by_cases h1 : k = k'
  · by_cases h2 : a = a'
    · exact .inr (.inr ⟨h1, h2, fun h3 => h ⟨h1, h2, h3⟩⟩)
    · exact .inr (.inl ⟨h1, h2⟩)
  · exact .inl h1

set_option maxRecDepth 100000 in
set_option maxHeartbeats 1000000 in
theorem eqOps_any {w : World} {x y : Sl} {l m : List Opn} (hl : OpnRow w x.A l) (hm : OpnRow w y.A m) (hln : l.length = x.n) (hmn : m.length = y.n) (h9 : x.n ≤ 1000000) : Calls Tryz.prog 63 #[.slice x.A x.n x.cap, .slice y.A y.n y.cap] w (GrowB (decide (l = m)) w) := by
  obtain ⟨v, hv⟩ : ∃ v, v = decide (l = m) := ⟨_, rfl⟩
  rw [← hv]
  have hv' := Lib.hid hv
  obtain ⟨A, n, cap⟩ := x
  obtain ⟨B, n2, cap2⟩ := y
  have hl' := Lib.hid hl
  have hm' := Lib.hid hm
  simp only at *
  have hln' := Lib.hid hln
  have hmn' := Lib.hid hmn
  clear hv hl hm hln hmn
  by_cases hn : n = n2
  · subst hn
    go_enter Tryz.func63, Tryz.ntmps63
    go_wp2
    go_loopw [13] (fun i wr => ∃ k : Nat, k ≤ n ∧ i = .int .i64 k ∧ (∀ j : Nat, j < k → l[j]? = m[j]?) ∧ Only (fun _ => False) w wr) (fun i _ => n - (intOf i).toNat)
    case atStart => exact ⟨0, Nat.zero_le _, rfl, (fun j hj => by omega), Only.refl _ w⟩
    case round =>
      obtain ⟨k, hk, rfl, hall, hO⟩ := hrel
      have hall' := Lib.hid hall
      have hO' := Lib.hid hO
      clear hall hO
      by_cases hkn : k < n
      · have hkn' : (k : Int) < (n : Int) := by omega
        obtain ⟨z, hz⟩ : ∃ z, l[k]? = some z := ⟨_, List.getElem?_eq_getElem (by have := hln'.out; omega)⟩
        obtain ⟨u, hu⟩ : ∃ z, m[k]? = some z := ⟨_, List.getElem?_eq_getElem (by have := hmn'.out; omega)⟩
        obtain ⟨b, off, hA, hb, hC⟩ := hl'.out k z hz
        obtain ⟨b2, off2, hA2, hb2, hD⟩ := hm'.out k u hu
        subst hA
        subst hA2
        have c0 := hO'.out.cell hC.1 (fun h => h)
        have c1 := hO'.out.cell hC.2.1 (fun h => h)
        have c2 := hO'.out.cell hC.2.2 (fun h => h)
        have d0 := hO'.out.cell hD.1 (fun h => h)
        have d1 := hO'.out.cell hD.2.1 (fun h => h)
        have d2 := hO'.out.cell hD.2.2 (fun h => h)
        clear hC hD
        by_cases hzu : z = u
        · subst hzu
          have hnx := Lib.hid (show ∀ j : Nat, j < k + 1 → l[j]? = m[j]? from fun j hj => by
            by_cases hjk : j < k
            · exact hall'.out j hjk
            · obtain rfl : j = k := by omega
              rw [hz, hu])
          clear hz hu
          obtain ⟨ok, oa, ob⟩ := z
          simp only at *
          go_wp2
          go_quiet (fail)
          go_wp2
          go_roundw
          case rel => exact ⟨k + 1, by omega, by go_num, hnx.out, hO'.out.drewN _⟩
          case measure => simp [intOf]; omega
        · have hvf := Lib.hid (show v = false by rw [hv'.out]; exact decide_eq_false (fun e => by rw [e, hu] at hz; cases hz; exact hzu rfl))
          clear hz hu
          obtain ⟨ok, oa, ob⟩ := z
          obtain ⟨uk, ua, ub⟩ := u
          simp only at *
          rcases opn_ne hzu with h | ⟨rfl, h⟩ | ⟨rfl, rfl, h⟩
          all_goals
            clear hzu
            go_wp2
            go_quiet (fail)
            go_wp2
            go_ret
            exact retg_bool hvf.out.symm (hO'.out.drewN _)
      · obtain rfl : k = n := by omega
        have hvt := Lib.hid (show v = true by rw [hv'.out]; exact decide_eq_true (same_lists (by have := hln'.out; have := hmn'.out; omega) (fun j hj => hall'.out j (by have := hln'.out; omega))))
        go_wp2
        go_ret
        exact retg_bool hvt.out.symm hO'.out
  · have hnb : ((n : Int) != (n2 : Int)) = true := by simp; omega
    have hvf := Lib.hid (show v = false by rw [hv'.out]; exact decide_eq_false (fun e => hn (by rw [← hln'.out, ← hmn'.out, e])))
    go_enter Tryz.func63, Tryz.ntmps63
    go_wp2
    go_ret
    exact retg_bool hvf.out.symm (Only.refl _ w)
end Go.Proofs.YtbjpnjgkpkfngaaGreatDoor
namespace Go.Proofs.YtbjpnjgkpkfngaaGreatDoor
open Go Go.RowKit

theorem und81 : Tryz.prog.underlying 81 = some (.array 6 3) := by kernel_rfl
theorem inf3 : ∃ i, Tryz.prog.info? 3 = some i := Option.isSome_iff_exists.1 (by kernel_rfl)
theorem cel3 : Tryz.prog.cellsOf 3 = 1 := by kernel_rfl
/-- Six figures compared. -/
theorem eq81 (a b c d e f a' b' c' d' e' f' : Int) (w : World) : Sem.run Tryz.prog (binOp .eql 81 (.agg #[.int .i64 a, .int .i64 b, .int .i64 c, .int .i64 d, .int .i64 e, .int .i64 f]) (.agg #[.int .i64 a', .int .i64 b', .int .i64 c', .int .i64 d', .int .i64 e', .int .i64 f'])) w = .ok (.bool (a == a' && (b == b' && (c == c' && (d == d' && (e == e' && f == f')))))) w := by
  obtain ⟨i, hi⟩ := inf3
  have h := run_equalIn_array (P := Tryz.prog) (w := w) 9999 (t := 81) (e := 3) (n := 6) (i := i) #[.int .i64 a, .int .i64 b, .int .i64 c, .int .i64 d, .int .i64 e, .int .i64 f] #[.int .i64 a', .int .i64 b', .int .i64 c', .int .i64 d', .int .i64 e', .int .i64 f'] und81 hi
  rw [cel3, show List.range 6 = [0,1,2,3,4,5] from rfl] at h
  simp only [go_sem]
  rw [show (10000 : Nat) = 9999 + 1 from rfl, h]
  simp [Op.eqItems, go_sem, Sem.run_bind]
  repeat' split
  all_goals simp_all

def TaskV.figs (t : TaskV) : Value := .agg #[.int .i64 t.p, .int .i64 t.th, .int .i64 t.pe, .int .i64 t.de, .int .i64 t.fr, .int .i64 t.fl]
set_option maxRecDepth 100000 in
theorem figures_any (w : World) (t : TaskV) : Calls Tryz.prog 49 #[t.val] w (GrowV t.figs w) := by
  rw [show t.val = .agg #[.int .i64 t.p, .int .i64 t.th, .int .i64 t.pe, .int .i64 t.de, .int .i64 t.fr, .int .i64 t.fl, .slice t.o.A t.o.n t.o.cap] from rfl]
  obtain ⟨P, th, pe, de, fr, fl, ⟨oA, on, oc⟩⟩ := t
  simp only at *
  go_enter Tryz.func49, Tryz.ntmps49
  go_wp2
  exact bodyPost_ret (v := .agg #[.int .i64 P, .int .i64 th, .int .i64 pe, .int .i64 de, .int .i64 fr, .int .i64 fl]) (by simp [results, Tryz.results49, go_sem]) rfl ⟨rfl, ((Only.refl _ w).alloc _).alloc _⟩
def figP (t u : TaskV) : Prop := t.p = u.p ∧ t.th = u.th ∧ t.pe = u.pe ∧ t.de = u.de ∧ t.fr = u.fr ∧ t.fl = u.fl
instance (t u : TaskV) : Decidable (figP t u) := by unfold figP; infer_instance
theorem fig_ne {t u : TaskV} (h : ¬ figP t u) : ¬ t.p = u.p ∨ (t.p = u.p ∧ ¬ t.th = u.th) ∨ (t.p = u.p ∧ t.th = u.th ∧ ¬ t.pe = u.pe) ∨ (t.p = u.p ∧ t.th = u.th ∧ t.pe = u.pe ∧ ¬ t.de = u.de) ∨ (t.p = u.p ∧ t.th = u.th ∧ t.pe = u.pe ∧ t.de = u.de ∧ ¬ t.fr = u.fr) ∨ (t.p = u.p ∧ t.th = u.th ∧ t.pe = u.pe ∧ t.de = u.de ∧ t.fr = u.fr ∧ ¬ t.fl = u.fl) := by
  unfold figP at h
  by_cases h1 : t.p = u.p
  · by_cases h2 : t.th = u.th
    · by_cases h3 : t.pe = u.pe
      · by_cases h4 : t.de = u.de
        · by_cases h5 : t.fr = u.fr
          · exact .inr (.inr (.inr (.inr (.inr ⟨h1, h2, h3, h4, h5, fun h6 => h ⟨h1, h2, h3, h4, h5, h6⟩⟩))))
          · exact .inr (.inr (.inr (.inr (.inl ⟨h1, h2, h3, h4, h5⟩))))
        · exact .inr (.inr (.inr (.inl ⟨h1, h2, h3, h4⟩)))
      · exact .inr (.inr (.inl ⟨h1, h2, h3⟩))
    · exact .inr (.inl ⟨h1, h2⟩)
  · exact .inl h1
/-- Whether two tasks are the same, with their programs. -/
def taskEq (x y : TaskV × List Opn) : Bool := decide (figP x.1 y.1) && decide (x.2 = y.2)

set_option maxRecDepth 100000 in
set_option maxHeartbeats 2000000 in
theorem sameTask_any {w : World} {t u : TaskV} {l m : List Opn} (hl : OpnRow w t.o.A l) (hm : OpnRow w u.o.A m) (hln : l.length = t.o.n) (hmn : m.length = u.o.n) (h9 : t.o.n ≤ 1000000) : Calls Tryz.prog 39 #[t.val, u.val] w (GrowB (taskEq (t, l) (u, m)) w) := by
  have hO := ((Only.refl (fun _ => False) w).alloc (.cells t.cells.toArray 45)).alloc (.cells u.cells.toArray 45)
  have hB := heap_kept_alloc (heap_new_at w (.cells t.cells.toArray 45) rfl) (.cells u.cells.toArray 45)
  have hB2 := heap_new_at (w.alloc (.cells t.cells.toArray 45)) (.cells u.cells.toArray 45) (X := w.heap.size + 1) (by simp)
  obtain ⟨W2, hW2⟩ : ∃ W2, W2 = (w.alloc (.cells t.cells.toArray 45)).alloc (.cells u.cells.toArray 45) := ⟨_, rfl⟩
  rw [← hW2] at hO hB hB2
  have a0 := wd_cell (row_cell hB (i := 0) rfl)
  have b0 := wd_cell (row_cell hB2 (i := 0) rfl)
  have a1 := wd_cell (row_cell hB (i := 1) rfl)
  have b1 := wd_cell (row_cell hB2 (i := 1) rfl)
  have a2 := wd_cell (row_cell hB (i := 2) rfl)
  have b2 := wd_cell (row_cell hB2 (i := 2) rfl)
  have a3 := wd_cell (row_cell hB (i := 3) rfl)
  have b3 := wd_cell (row_cell hB2 (i := 3) rfl)
  have a4 := wd_cell (row_cell hB (i := 4) rfl)
  have b4 := wd_cell (row_cell hB2 (i := 4) rfl)
  have a5 := wd_cell (row_cell hB (i := 5) rfl)
  have b5 := wd_cell (row_cell hB2 (i := 5) rfl)
  have a6 := wd_cell (row_cell hB (i := 6) rfl)
  have b6 := wd_cell (row_cell hB2 (i := 6) rfl)
  have hex := wd_ex W2
  obtain ⟨V, hV⟩ : ∃ V, V = taskEq (t, l) (u, m) := ⟨_, rfl⟩
  obtain ⟨be, hbe⟩ : ∃ b, b = decide (l = m) := ⟨_, rfl⟩
  have q1 := fun v : Wd W2 => Calls.wd (x := v) (figures_any v.W t)
  have q2 := fun v : Wd W2 => Calls.wd (x := v) (figures_any v.W u)
  have q3 := fun v : Wd W2 => Calls.wd (x := v) (eqOps_any (x := t.o) (y := u.o) (hl.new (hO.trans' v.ok)) (hm.new (hO.trans' v.ok)) hln hmn h9)
  rw [← hbe] at q3
  have hV' := Lib.hid (show V = (decide (figP t u) && be) by rw [hV, hbe]; rfl)
  rw [← hV]
  have hcs := Lib.hid (show figP t u ∨ ¬ figP t u from Decidable.em _)
  have hne := Lib.hid (fun h => fig_ne (t := t) (u := u) h)
  have hfy := Lib.hid (show figP t u → (t.p = u.p ∧ t.th = u.th ∧ t.pe = u.pe ∧ t.de = u.de ∧ t.fr = u.fr ∧ t.fl = u.fl) from fun h => h)
  rw [show t.figs = .agg #[.int .i64 t.p, .int .i64 t.th, .int .i64 t.pe, .int .i64 t.de, .int .i64 t.fr, .int .i64 t.fl] from rfl] at q1
  rw [show u.figs = .agg #[.int .i64 u.p, .int .i64 u.th, .int .i64 u.pe, .int .i64 u.de, .int .i64 u.fr, .int .i64 u.fl] from rfl] at q2
  rw [show t.val = .agg #[.int .i64 t.p, .int .i64 t.th, .int .i64 t.pe, .int .i64 t.de, .int .i64 t.fr, .int .i64 t.fl, .slice t.o.A t.o.n t.o.cap] from rfl] at q1 ⊢
  rw [show u.val = .agg #[.int .i64 u.p, .int .i64 u.th, .int .i64 u.pe, .int .i64 u.de, .int .i64 u.fr, .int .i64 u.fl, .slice u.o.A u.o.n u.o.cap] from rfl] at q2 ⊢
  unfold TaskV.cells at hW2
  have hVy := Lib.hid (fun (h : figP t u) => show V = be by rw [hV'.out, decide_eq_true h]; rfl)
  have hVn := Lib.hid (fun (h : ¬ figP t u) => show V = false by rw [hV'.out, decide_eq_false h]; rfl)
  clear hV' hl hm hln hmn hbe hV hB hB2
  generalize figP t u = FP at *
  obtain ⟨P, th, pe, de, fr, fl, ⟨oA, on, oc⟩⟩ := t
  obtain ⟨P2, th2, pe2, de2, fr2, fl2, ⟨oA2, on2, oc2⟩⟩ := u
  simp only at *
  have q1' := Lib.hid q1
  have q2' := Lib.hid q2
  have q3' := Lib.hid q3
  have hO' := Lib.hid hO
  have hW2' := Lib.hid hW2
  clear q1 q2 q3 hO hW2
  rcases hcs.out with h | h
  · have hv := Lib.hid (hVy.out h)
    obtain ⟨rfl, rfl, rfl, rfl, rfl, rfl⟩ := hfy.out h
    clear hcs hne hVy hVn hfy h
    have hE := fun W => eq81 P th pe de fr fl P th pe de fr fl W
    simp only [beq_self_eq_true, Bool.and_self] at hE
    go_enter Tryz.func39, Tryz.ntmps39
    go_wp2
    rw [← hW2'.out]
    refine wp_region_wd (by kernel_rfl) (by kernel_rfl) ?_
    repeat (go_big_quiet_step (first | (go_at_call 49; first | (with_reducible exact q1'.out _) | (with_reducible exact q2'.out _)) | (go_at_call 63; exact q3'.out _)))
    refine wpQuiet_nil ?_
    rintro _ ⟨v, rfl⟩
    have hx := Lib.hid (hO'.out.trans' v.ok)
    go_wp2
    go_ret
    exact retg_bool hv.out.symm hx.out
  · have hv := Lib.hid (hVn.out h)
    have hn := hne.out h
    clear hcs hne hVy hVn hfy h
    rcases hn with h | ⟨rfl, h⟩ | ⟨rfl, rfl, h⟩ | ⟨rfl, rfl, rfl, h⟩ | ⟨rfl, rfl, rfl, rfl, h⟩ | ⟨rfl, rfl, rfl, rfl, rfl, h⟩
    all_goals
      have hE := eq81
      have hbf := beq_eq_false_iff_ne.2 h
      go_enter Tryz.func39, Tryz.ntmps39
      go_wp2
      rw [← hW2'.out]
      refine wp_region_wd (by kernel_rfl) (by kernel_rfl) ?_
      repeat (go_big_quiet_step (first | (go_at_call 49; first | (with_reducible exact q1'.out _) | (with_reducible exact q2'.out _)) | (go_at_call 63; exact q3'.out _)))
      refine wpQuiet_nil ?_
      rintro _ ⟨v, rfl⟩
      have hx := Lib.hid (hO'.out.trans' v.ok)
      go_wp2
      go_ret
      exact retg_bool hv.out.symm hx.out
end Go.Proofs.YtbjpnjgkpkfngaaGreatDoor
namespace Go.Proofs.YtbjpnjgkpkfngaaGreatDoor
open Go Go.RowKit

def tasksEq : Tks → Tks → Bool
  | [], [] => true
  | x :: xs, y :: ys => taskEq x y && tasksEq xs ys
  | _, _ => false
theorem tasksEq_all : ∀ {a b : Tks}, a.length = b.length → (∀ (j : Nat) x y, a[j]? = some x → b[j]? = some y → taskEq x y = true) → tasksEq a b = true
  | [], [], _, _ => rfl
  | x :: xs, y :: ys, hn, h => by
    show (taskEq x y && tasksEq xs ys) = true
    rw [h 0 x y rfl rfl, tasksEq_all (by simpa using hn) (fun j u v hu hv => h (j + 1) u v hu hv)]
    rfl
  | [], _ :: _, hn, _ => by simp at hn
  | _ :: _, [], hn, _ => by simp at hn
theorem tasksEq_bad : ∀ {a b : Tks} {k : Nat} {x y}, a[k]? = some x → b[k]? = some y → taskEq x y = false → tasksEq a b = false
  | [], _, _, _, _, h, _, _ => by simp at h
  | _ :: _, [], _, _, _, _, h, _ => by simp at h
  | u :: us, v :: vs, 0, x, y, h1, h2, h3 => by
    cases h1
    cases h2
    show (taskEq u v && tasksEq us vs) = false
    rw [h3]
    rfl
  | u :: us, v :: vs, k + 1, x, y, h1, h2, h3 => by
    show (taskEq u v && tasksEq us vs) = false
    rw [tasksEq_bad (k := k) h1 h2 h3]
    simp
theorem tasksEq_len : ∀ {a b : Tks}, a.length ≠ b.length → tasksEq a b = false
  | [], [], h => absurd rfl h
  | x :: xs, y :: ys, h => by
    show (taskEq x y && tasksEq xs ys) = false
    rw [tasksEq_len (fun e => h (by simp [e]))]
    simp
  | [], _ :: _, _ => rfl
  | _ :: _, [], _ => rfl

set_option maxRecDepth 100000 in
set_option maxHeartbeats 2000000 in
theorem eqTasks_any {w : World} {x y : Sl} {pl ql : Tks} (hT : TasksAt w x pl.ts) (hU : TasksAt w y ql.ts) (hp : ProgsAt w pl) (hq : ProgsAt w ql) (h9 : x.n ≤ 1000000) : Calls Tryz.prog 38 #[.slice x.A x.n x.cap, .slice y.A y.n y.cap, .func (.func 39) #[] #[]] w (GrowB (tasksEq pl ql) w) := by
  obtain ⟨v, hv⟩ : ∃ v, v = tasksEq pl ql := ⟨_, rfl⟩
  rw [← hv]
  have hv' := Lib.hid hv
  have qs := Lib.hid (fun (W : World) (hW : Only (fun _ => False) w W) (k : Nat) (t u : TaskV) (l m : List Opn) (h1 : pl[k]? = some (t, l)) (h2 : ql[k]? = some (u, m)) => sameTask_any ((hp.new hW).row k t l h1).1 ((hq.new hW).row k u m h2).1 (hp.row k t l h1).2.1 (hq.row k u m h2).2.1 (hp.row k t l h1).2.2.1)
  have hln : pl.length = x.n := by have := hT.len; unfold Tks.ts at this; rwa [List.length_map] at this
  have hmn : ql.length = y.n := by have := hU.len; unfold Tks.ts at this; rwa [List.length_map] at this
  obtain ⟨A, n, cap⟩ := x
  obtain ⟨B, n2, cap2⟩ := y
  have hT' := Lib.hid hT
  have hU' := Lib.hid hU
  simp only at *
  have hln' := Lib.hid hln
  have hmn' := Lib.hid hmn
  clear hv hT hU hp hq hln hmn
  by_cases hn : n = n2
  · subst hn
    go_enter Tryz.func38, Tryz.ntmps38
    go_wp2
    go_loopw [17] (fun i wr => ∃ k : Nat, k ≤ n ∧ i = .int .i64 k ∧ (∀ (j : Nat) x y, j < k → pl[j]? = some x → ql[j]? = some y → taskEq x y = true) ∧ Only (fun _ => False) w wr) (fun i _ => n - (intOf i).toNat)
    case atStart => exact ⟨0, Nat.zero_le _, rfl, (fun j _ _ hj => by omega), Only.refl _ w⟩
    case round =>
      obtain ⟨k, hk, rfl, hall, hO⟩ := hrel
      have hall' := Lib.hid hall
      have hO' := Lib.hid hO
      clear hall hO
      by_cases hkn : k < n
      · have hkn' : (k : Int) < (n : Int) := by omega
        obtain ⟨⟨t, l⟩, hz⟩ : ∃ z, pl[k]? = some z := ⟨_, List.getElem?_eq_getElem (by have := hln'.out; omega)⟩
        obtain ⟨⟨u, m⟩, hu⟩ : ∃ z, ql[k]? = some z := ⟨_, List.getElem?_eq_getElem (by have := hmn'.out; omega)⟩
        obtain ⟨b, off, hA, hb, hC⟩ := hT'.out.at_ k t (ts_some hz)
        obtain ⟨b2, off2, hA2, hb2, hD⟩ := hU'.out.at_ k u (ts_some hu)
        simp only at hA hA2
        subst hA
        subst hA2
        obtain ⟨c0, c1, c2, c3, c4, c5, c6⟩ := hC.new hO'.out
        obtain ⟨d0, d1, d2, d3, d4, d5, d6⟩ := hD.new hO'.out
        have hbb := Nat.lt_of_lt_of_le hb hO'.out.size
        have hbb2 := Nat.lt_of_lt_of_le hb2 hO'.out.size
        obtain ⟨z, hze⟩ : ∃ z, z = taskEq (t, l) (u, m) := ⟨_, rfl⟩
        have q1 := fun (W : World) (hW : Only (fun _ => False) wr W) => qs.out W (hO'.out.trans' hW) k t u l m hz hu
        rw [← hze] at q1
        rw [show t.val = .agg #[.int .i64 t.p, .int .i64 t.th, .int .i64 t.pe, .int .i64 t.de, .int .i64 t.fr, .int .i64 t.fl, .slice t.o.A t.o.n t.o.cap] from rfl, show u.val = .agg #[.int .i64 u.p, .int .i64 u.th, .int .i64 u.pe, .int .i64 u.de, .int .i64 u.fr, .int .i64 u.fl, .slice u.o.A u.o.n u.o.cap] from rfl] at q1
        have q1' := Lib.hid q1
        have hnx := Lib.hid (fun (h : z = true) => show ∀ (j : Nat) x y, j < k + 1 → pl[j]? = some x → ql[j]? = some y → taskEq x y = true from fun j x y hj hx hy => by
          by_cases hjk : j < k
          · exact hall'.out j x y hjk hx hy
          · obtain rfl : j = k := by omega
            rw [hz] at hx
            rw [hu] at hy
            cases hx
            cases hy
            rw [← hze, h])
        have hbad := Lib.hid (fun (h : z = false) => show v = false by rw [hv'.out]; exact tasksEq_bad hz hu (by rw [← hze, h]))
        clear q1 hz hu hze hC hD hb hb2
        obtain ⟨P, th, pe, de, fr, fl, ⟨oA, on, oc⟩⟩ := t
        obtain ⟨P2, th2, pe2, de2, fr2, fl2, ⟨oA2, on2, oc2⟩⟩ := u
        simp only at *
        go_wp2_with fail
        refine (q1'.out _ (by repeat (first | exact Only.refl _ _ | refine Only.alloc ?_ _))).mono ?_
        rintro e w1 ⟨rfl, hO1⟩
        have hO2 := Lib.hid (hO'.out.trans' ((((Only.refl _ _).alloc _).alloc _).trans' hO1))
        clear hO1 q1'
        cases hzc : z
        · have hvf := Lib.hid (hbad.out hzc)
          clear hbad hnx
          subst hzc
          go_wp2
          go_ret
          exact retg_bool hvf.out.symm hO2.out
        · have hnw := Lib.hid (hnx.out hzc)
          clear hbad hnx
          subst hzc
          go_wp2
          go_roundw
          case rel => exact ⟨k + 1, by omega, by go_num, hnw.out, hO2.out⟩
          case measure => simp [intOf]; omega
      · obtain rfl : k = n := by omega
        have hvt := Lib.hid (show v = true by rw [hv'.out]; exact tasksEq_all (by have := hln'.out; have := hmn'.out; omega) (fun j x y hx hy => hall'.out j x y (by have := (List.getElem?_eq_some_iff.1 hx).1; have := hln'.out; omega) hx hy))
        go_wp2
        go_ret
        exact retg_bool hvt.out.symm hO'.out
  · have hnb : ((n : Int) != (n2 : Int)) = true := by simp; omega
    have hvf := Lib.hid (show v = false by rw [hv'.out]; exact tasksEq_len (by have := hln'.out; have := hmn'.out; omega))
    go_enter Tryz.func38, Tryz.ntmps38
    go_wp2
    go_ret
    exact retg_bool hvf.out.symm (Only.refl _ w)
end Go.Proofs.YtbjpnjgkpkfngaaGreatDoor
namespace Go.Proofs.YtbjpnjgkpkfngaaGreatDoor
open Go Go.RowKit

def headP (c e : ConfV) : Prop := c.s = e.s ∧ c.wy = e.wy ∧ c.h = e.h ∧ c.mi = e.mi ∧ c.g = e.g
instance (c e : ConfV) : Decidable (headP c e) := by unfold headP; infer_instance
theorem head_ne {c e : ConfV} (h : ¬ headP c e) : ¬ c.s = e.s ∨ (c.s = e.s ∧ ¬ c.wy = e.wy) ∨ (c.s = e.s ∧ c.wy = e.wy ∧ ¬ c.h = e.h) ∨ (c.s = e.s ∧ c.wy = e.wy ∧ c.h = e.h ∧ ¬ c.mi = e.mi) ∨ (c.s = e.s ∧ c.wy = e.wy ∧ c.h = e.h ∧ c.mi = e.mi ∧ ¬ c.g = e.g) := by
  unfold headP at h
  by_cases h1 : c.s = e.s
  · by_cases h2 : c.wy = e.wy
    · by_cases h3 : c.h = e.h
      · by_cases h4 : c.mi = e.mi
        · exact .inr (.inr (.inr (.inr ⟨h1, h2, h3, h4, fun h5 => h ⟨h1, h2, h3, h4, h5⟩⟩)))
        · exact .inr (.inr (.inr (.inl ⟨h1, h2, h3, h4⟩)))
      · exact .inr (.inr (.inl ⟨h1, h2, h3⟩))
    · exact .inr (.inl ⟨h1, h2⟩)
  · exact .inl h1
def sameB (c : ConfV) (d : ConfL) (pl : Tks) (c' : ConfV) (d' : ConfL) (pl' : Tks) : Bool :=
  decide (headP c c') && (decide (d.mb = d'.mb) && (decide (d.cn = d'.cn) && (decide (d.ce = d'.ce) && (tasksEq pl pl' && decide (d.li = d'.li)))))

set_option maxRecDepth 100000 in
set_option maxHeartbeats 4000000 in
theorem same_any {w : World} {c e : ConfV} {d d2 : ConfL} {pl ql : Tks} (hc : ConfAt w c d pl) (he : ConfAt w e d2 ql) : Calls Tryz.prog 17 #[c.val, e.val] w (GrowB (sameB c d pl e d2 ql) w) := by
  have hO := ((Only.refl (fun _ => False) w).alloc (.cells c.cells.toArray 27)).alloc (.cells e.cells.toArray 27)
  have hB := heap_kept_alloc (heap_new_at w (.cells c.cells.toArray 27) rfl) (.cells e.cells.toArray 27)
  have hB2 := heap_new_at (w.alloc (.cells c.cells.toArray 27)) (.cells e.cells.toArray 27) (X := w.heap.size + 1) (by simp)
  obtain ⟨W2, hW2⟩ : ∃ W2, W2 = (w.alloc (.cells c.cells.toArray 27)).alloc (.cells e.cells.toArray 27) := ⟨_, rfl⟩
  rw [← hW2] at hO hB hB2
  have e0 := row_cell hB (i := 0) rfl
  have f0 := row_cell hB2 (i := 0) rfl
  have e1 := row_cell hB (i := 1) rfl
  have f1 := row_cell hB2 (i := 1) rfl
  have e2 := row_cell hB (i := 2) rfl
  have f2 := row_cell hB2 (i := 2) rfl
  have e3 := row_cell hB (i := 3) rfl
  have f3 := row_cell hB2 (i := 3) rfl
  have e4 := row_cell hB (i := 4) rfl
  have f4 := row_cell hB2 (i := 4) rfl
  have e5 := row_cell hB (i := 5) rfl
  have f5 := row_cell hB2 (i := 5) rfl
  have e6 := row_cell hB (i := 6) rfl
  have f6 := row_cell hB2 (i := 6) rfl
  have e7 := row_cell hB (i := 7) rfl
  have f7 := row_cell hB2 (i := 7) rfl
  have e8 := row_cell hB (i := 8) rfl
  have f8 := row_cell hB2 (i := 8) rfl
  have e9 := row_cell hB (i := 9) rfl
  have f9 := row_cell hB2 (i := 9) rfl
  have hlt1 := row_lt hB
  have hlt2 := row_lt hB2
  have q1 := Lib.hid (fun (W : World) (hW : Only (fun _ => False) w W) => eqInts_any (hc.new hW).o.mb (he.new hW).o.mb hc.o.s.1)
  obtain ⟨b1, x1⟩ : ∃ b, b = decide (d.mb = d2.mb) := ⟨_, rfl⟩
  rw [← x1] at q1
  have q2 := Lib.hid (fun (W : World) (hW : Only (fun _ => False) w W) => eqInts_any (hc.new hW).o.cn (he.new hW).o.cn hc.o.s.2.1)
  obtain ⟨b2, x2⟩ : ∃ b, b = decide (d.cn = d2.cn) := ⟨_, rfl⟩
  rw [← x2] at q2
  have q3 := Lib.hid (fun (W : World) (hW : Only (fun _ => False) w W) => eqInts_any (hc.new hW).o.ce (he.new hW).o.ce hc.o.s.2.2.1)
  obtain ⟨b3, x3⟩ : ∃ b, b = decide (d.ce = d2.ce) := ⟨_, rfl⟩
  rw [← x3] at q3
  have q4 := Lib.hid (fun (W : World) (hW : Only (fun _ => False) w W) => eqTasks_any (hc.new hW).t (he.new hW).t (hc.new hW).p (he.new hW).p hc.o.s.2.2.2.2)
  obtain ⟨b4, x4⟩ : ∃ b, b = tasksEq pl ql := ⟨_, rfl⟩
  rw [← x4] at q4
  have q5 := Lib.hid (fun (W : World) (hW : Only (fun _ => False) w W) => eqInts_any (hc.new hW).o.li (he.new hW).o.li hc.o.s.2.2.2.1)
  obtain ⟨b5, x5⟩ : ∃ b, b = decide (d.li = d2.li) := ⟨_, rfl⟩
  rw [← x5] at q5
  obtain ⟨V, hV⟩ : ∃ V, V = sameB c d pl e d2 ql := ⟨_, rfl⟩
  have hV' := Lib.hid (show V = (decide (headP c e) && (b1 && (b2 && (b3 && (b4 && b5))))) by rw [hV, x1, x2, x3, x4, x5]; rfl)
  rw [← hV]
  have hcs := Lib.hid (show headP c e ∨ ¬ headP c e from Decidable.em _)
  have hne := Lib.hid (fun h => head_ne (c := c) (e := e) h)
  have hfy := Lib.hid (show headP c e → (c.s = e.s ∧ c.wy = e.wy ∧ c.h = e.h ∧ c.mi = e.mi ∧ c.g = e.g) from fun h => h)
  have hVy := Lib.hid (fun (h : headP c e) => show V = (b1 && (b2 && (b3 && (b4 && b5)))) by rw [hV'.out, decide_eq_true h]; rfl)
  have hVn := Lib.hid (fun (h : ¬ headP c e) => show V = false by rw [hV'.out, decide_eq_false h]; rfl)
  rw [show c.val = .agg #[.int .i64 c.s, .int .i64 c.wy, .int .i64 c.h, .int .i64 c.mi, .slice c.mb.A c.mb.n c.mb.cap, .int .i64 c.g, .slice c.cn.A c.cn.n c.cn.cap, .slice c.ce.A c.ce.n c.ce.cap, .slice c.ta.A c.ta.n c.ta.cap, .slice c.li.A c.li.n c.li.cap] from rfl, show e.val = .agg #[.int .i64 e.s, .int .i64 e.wy, .int .i64 e.h, .int .i64 e.mi, .slice e.mb.A e.mb.n e.mb.cap, .int .i64 e.g, .slice e.cn.A e.cn.n e.cn.cap, .slice e.ce.A e.ce.n e.ce.cap, .slice e.ta.A e.ta.n e.ta.cap, .slice e.li.A e.li.n e.li.cap] from rfl]
  unfold ConfV.cells at hW2
  clear hV' hc he hV hB hB2 x1 x2 x3 x4 x5
  generalize headP c e = HP at *
  obtain ⟨s, wy, h, mi, ⟨mA, mn, mc⟩, g, ⟨cA, cn, cc⟩, ⟨eA, en, ec⟩, ⟨tA, tn, tc⟩, ⟨lA, ln, lc⟩⟩ := c
  obtain ⟨s', wy', h', mi', ⟨mA', mn', mc'⟩, g', ⟨cA', cn', cc'⟩, ⟨eA', en', ec'⟩, ⟨tA', tn', tc'⟩, ⟨lA', ln', lc'⟩⟩ := e
  simp only at *
  have hO' := Lib.hid hO
  have hW2' := Lib.hid hW2
  clear hO hW2
  rcases hcs.out with hh | hh
  rotate_left
  · have hv := Lib.hid (hVn.out hh)
    have hn := hne.out hh
    clear hcs hne hVy hVn hfy hh
    rcases hn with hn | ⟨rfl, hn⟩ | ⟨rfl, rfl, hn⟩ | ⟨rfl, rfl, rfl, hn⟩ | ⟨rfl, rfl, rfl, rfl, hn⟩
    all_goals
      have hbf := beq_eq_false_iff_ne.2 hn
      go_enter Tryz.func17, Tryz.ntmps17
      go_wp2
      rw [← hW2'.out]
      go_ret
      exact retg_bool hv.out.symm hO'.out
  · have hv0 := Lib.hid (hVy.out hh)
    obtain ⟨rfl, rfl, rfl, rfl, rfl⟩ := hfy.out hh
    clear hcs hne hVy hVn hfy hh
    go_enter Tryz.func17, Tryz.ntmps17
    go_wp2_with fail
    rw [← hW2'.out]
    have hP0 := hO'
    refine (q1.out _ hP0.out).mono ?_
    rintro e w1 ⟨rfl, hQ1⟩
    replace e0 := hQ1.cell e0 (fun h => h)
    replace e1 := hQ1.cell e1 (fun h => h)
    replace e2 := hQ1.cell e2 (fun h => h)
    replace e3 := hQ1.cell e3 (fun h => h)
    replace e4 := hQ1.cell e4 (fun h => h)
    replace e5 := hQ1.cell e5 (fun h => h)
    replace e6 := hQ1.cell e6 (fun h => h)
    replace e7 := hQ1.cell e7 (fun h => h)
    replace e8 := hQ1.cell e8 (fun h => h)
    replace e9 := hQ1.cell e9 (fun h => h)
    replace f0 := hQ1.cell f0 (fun h => h)
    replace f1 := hQ1.cell f1 (fun h => h)
    replace f2 := hQ1.cell f2 (fun h => h)
    replace f3 := hQ1.cell f3 (fun h => h)
    replace f4 := hQ1.cell f4 (fun h => h)
    replace f5 := hQ1.cell f5 (fun h => h)
    replace f6 := hQ1.cell f6 (fun h => h)
    replace f7 := hQ1.cell f7 (fun h => h)
    replace f8 := hQ1.cell f8 (fun h => h)
    replace f9 := hQ1.cell f9 (fun h => h)
    replace hlt1 := Nat.lt_of_lt_of_le hlt1 hQ1.size
    replace hlt2 := Nat.lt_of_lt_of_le hlt2 hQ1.size
    have hP1 := Lib.hid (hP0.out.trans' hQ1)
    clear hQ1
    cases b1
    · have hv := Lib.hid (show V = false by rw [hv0.out]; simp)
      go_wp2
      go_ret
      exact retg_bool (by first | exact hv.out.symm | (rw [hv.out]; simp)) hP1.out
    · skip
      go_wp2_with fail
      refine (q2.out _ hP1.out).mono ?_
      rintro e w2 ⟨rfl, hQ2⟩
      replace e0 := hQ2.cell e0 (fun h => h)
      replace e1 := hQ2.cell e1 (fun h => h)
      replace e2 := hQ2.cell e2 (fun h => h)
      replace e3 := hQ2.cell e3 (fun h => h)
      replace e4 := hQ2.cell e4 (fun h => h)
      replace e5 := hQ2.cell e5 (fun h => h)
      replace e6 := hQ2.cell e6 (fun h => h)
      replace e7 := hQ2.cell e7 (fun h => h)
      replace e8 := hQ2.cell e8 (fun h => h)
      replace e9 := hQ2.cell e9 (fun h => h)
      replace f0 := hQ2.cell f0 (fun h => h)
      replace f1 := hQ2.cell f1 (fun h => h)
      replace f2 := hQ2.cell f2 (fun h => h)
      replace f3 := hQ2.cell f3 (fun h => h)
      replace f4 := hQ2.cell f4 (fun h => h)
      replace f5 := hQ2.cell f5 (fun h => h)
      replace f6 := hQ2.cell f6 (fun h => h)
      replace f7 := hQ2.cell f7 (fun h => h)
      replace f8 := hQ2.cell f8 (fun h => h)
      replace f9 := hQ2.cell f9 (fun h => h)
      replace hlt1 := Nat.lt_of_lt_of_le hlt1 hQ2.size
      replace hlt2 := Nat.lt_of_lt_of_le hlt2 hQ2.size
      have hP2 := Lib.hid (hP1.out.trans' hQ2)
      clear hQ2
      cases b2
      · have hv := Lib.hid (show V = false by rw [hv0.out]; simp)
        go_wp2
        go_ret
        exact retg_bool (by first | exact hv.out.symm | (rw [hv.out]; simp)) hP2.out
      · skip
        go_wp2_with fail
        refine (q3.out _ hP2.out).mono ?_
        rintro e w3 ⟨rfl, hQ3⟩
        replace e0 := hQ3.cell e0 (fun h => h)
        replace e1 := hQ3.cell e1 (fun h => h)
        replace e2 := hQ3.cell e2 (fun h => h)
        replace e3 := hQ3.cell e3 (fun h => h)
        replace e4 := hQ3.cell e4 (fun h => h)
        replace e5 := hQ3.cell e5 (fun h => h)
        replace e6 := hQ3.cell e6 (fun h => h)
        replace e7 := hQ3.cell e7 (fun h => h)
        replace e8 := hQ3.cell e8 (fun h => h)
        replace e9 := hQ3.cell e9 (fun h => h)
        replace f0 := hQ3.cell f0 (fun h => h)
        replace f1 := hQ3.cell f1 (fun h => h)
        replace f2 := hQ3.cell f2 (fun h => h)
        replace f3 := hQ3.cell f3 (fun h => h)
        replace f4 := hQ3.cell f4 (fun h => h)
        replace f5 := hQ3.cell f5 (fun h => h)
        replace f6 := hQ3.cell f6 (fun h => h)
        replace f7 := hQ3.cell f7 (fun h => h)
        replace f8 := hQ3.cell f8 (fun h => h)
        replace f9 := hQ3.cell f9 (fun h => h)
        replace hlt1 := Nat.lt_of_lt_of_le hlt1 hQ3.size
        replace hlt2 := Nat.lt_of_lt_of_le hlt2 hQ3.size
        have hP3 := Lib.hid (hP2.out.trans' hQ3)
        clear hQ3
        cases b3
        · have hv := Lib.hid (show V = false by rw [hv0.out]; simp)
          go_wp2
          go_ret
          exact retg_bool (by first | exact hv.out.symm | (rw [hv.out]; simp)) hP3.out
        · skip
          go_wp2_with fail
          refine (q4.out _ hP3.out).mono ?_
          rintro e w4 ⟨rfl, hQ4⟩
          replace e0 := hQ4.cell e0 (fun h => h)
          replace e1 := hQ4.cell e1 (fun h => h)
          replace e2 := hQ4.cell e2 (fun h => h)
          replace e3 := hQ4.cell e3 (fun h => h)
          replace e4 := hQ4.cell e4 (fun h => h)
          replace e5 := hQ4.cell e5 (fun h => h)
          replace e6 := hQ4.cell e6 (fun h => h)
          replace e7 := hQ4.cell e7 (fun h => h)
          replace e8 := hQ4.cell e8 (fun h => h)
          replace e9 := hQ4.cell e9 (fun h => h)
          replace f0 := hQ4.cell f0 (fun h => h)
          replace f1 := hQ4.cell f1 (fun h => h)
          replace f2 := hQ4.cell f2 (fun h => h)
          replace f3 := hQ4.cell f3 (fun h => h)
          replace f4 := hQ4.cell f4 (fun h => h)
          replace f5 := hQ4.cell f5 (fun h => h)
          replace f6 := hQ4.cell f6 (fun h => h)
          replace f7 := hQ4.cell f7 (fun h => h)
          replace f8 := hQ4.cell f8 (fun h => h)
          replace f9 := hQ4.cell f9 (fun h => h)
          replace hlt1 := Nat.lt_of_lt_of_le hlt1 hQ4.size
          replace hlt2 := Nat.lt_of_lt_of_le hlt2 hQ4.size
          have hP4 := Lib.hid (hP3.out.trans' hQ4)
          clear hQ4
          cases b4
          · have hv := Lib.hid (show V = false by rw [hv0.out]; simp)
            go_wp2
            go_ret
            exact retg_bool (by first | exact hv.out.symm | (rw [hv.out]; simp)) hP4.out
          · skip
            go_wp2_with fail
            refine (q5.out _ hP4.out).mono ?_
            rintro e w5 ⟨rfl, hQ5⟩
            replace e0 := hQ5.cell e0 (fun h => h)
            replace e1 := hQ5.cell e1 (fun h => h)
            replace e2 := hQ5.cell e2 (fun h => h)
            replace e3 := hQ5.cell e3 (fun h => h)
            replace e4 := hQ5.cell e4 (fun h => h)
            replace e5 := hQ5.cell e5 (fun h => h)
            replace e6 := hQ5.cell e6 (fun h => h)
            replace e7 := hQ5.cell e7 (fun h => h)
            replace e8 := hQ5.cell e8 (fun h => h)
            replace e9 := hQ5.cell e9 (fun h => h)
            replace f0 := hQ5.cell f0 (fun h => h)
            replace f1 := hQ5.cell f1 (fun h => h)
            replace f2 := hQ5.cell f2 (fun h => h)
            replace f3 := hQ5.cell f3 (fun h => h)
            replace f4 := hQ5.cell f4 (fun h => h)
            replace f5 := hQ5.cell f5 (fun h => h)
            replace f6 := hQ5.cell f6 (fun h => h)
            replace f7 := hQ5.cell f7 (fun h => h)
            replace f8 := hQ5.cell f8 (fun h => h)
            replace f9 := hQ5.cell f9 (fun h => h)
            replace hlt1 := Nat.lt_of_lt_of_le hlt1 hQ5.size
            replace hlt2 := Nat.lt_of_lt_of_le hlt2 hQ5.size
            have hP5 := Lib.hid (hP4.out.trans' hQ5)
            clear hQ5
            cases b5
            · have hv := Lib.hid (show V = false by rw [hv0.out]; simp)
              go_wp2
              go_ret
              exact retg_bool (by first | exact hv.out.symm | (rw [hv.out]; simp)) hP5.out
            · have hv := Lib.hid (show V = true by rw [hv0.out]; simp)
              go_wp2
              go_ret
              exact retg_bool hv.out.symm hP5.out
end Go.Proofs.YtbjpnjgkpkfngaaGreatDoor
