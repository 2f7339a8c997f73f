/- edf: whether streams fit. -/
import Derived.Test.YtkolbaadakhciaaEDem
namespace Go.Proofs.Ytkolbaadakhciaa
namespace Edf
open Go Go.RowKit
open Bch (U sA sM sA_le sM_le mul_any add_any ret_u)

def hit (s : St) (y : Nat) : Bool := decide (s.d ≤ y ∧ (y - s.d) % s.p = 0)
def wnt (l : List St) (y : Nat) : Nat := l.foldl (fun n s => n + if hit s y then s.c else 0) 0
theorem wnt_take {l : List St} {y k : Nat} {s : St} (h : l[k]? = some s) : wnt (l.take (k + 1)) y = wnt (l.take k) y + if hit s y then s.c else 0 := by
  unfold wnt
  rw [List.take_add_one, h, List.foldl_append]
  rfl
/-- Where the demand isn't above a number, nothing on its way stopped. -/
theorem dem_plain {l : List St} {T y : Nat} (hT : T ≤ 65536) (hy : y ≤ T) : ∀ k, k ≤ l.length → demS (l.take k) T ≤ T → wnt (l.take k) y ≤ demS (l.take k) T ∧ ∀ s ∈ l.take k, 0 < s.c → s.d ≤ T → 0 < s.p := by
  intro k
  induction k with
  | zero => intro _ _; exact ⟨by simp [wnt], by simp⟩
  | succ k ih =>
    intro hk hd
    obtain ⟨s, hs⟩ : ∃ s, l[k]? = some s := ⟨l[k], List.getElem?_eq_getElem (by omega)⟩
    rw [demS_take hs] at hd ⊢
    have h1 : sA (demS (l.take k) T) (sM (oft s T) s.c) = demS (l.take k) T + sM (oft s T) s.c := by
      unfold sA at hd ⊢
      split at hd
      · omega
      · rw [if_neg (by omega)]
    rw [h1] at hd ⊢
    have h2 : sM (oft s T) s.c = oft s T * s.c := by
      have h3 : sM (oft s T) s.c ≤ T := by omega
      unfold sM at h3 ⊢
      split at h3
      · omega
      · rw [if_neg (by omega)]
    obtain ⟨i1, i2⟩ := ih (by omega) (by omega)
    rw [wnt_take hs]
    have h4 : s.d ≤ T → 0 < oft s T := fun hdT => by
      unfold oft
      rw [if_neg (by omega)]
      split
      · omega
      · obtain ⟨z, hz⟩ : ∃ z, z = sS T s.d / s.p := ⟨_, rfl⟩
        rw [← hz]
        unfold sA; split <;> omega
    refine ⟨?_, fun z hz hc hzd => ?_⟩
    · by_cases hh : hit s y
      · rw [if_pos hh, h2]
        have h5 := (of_decide_eq_true hh).1
        have h6 := h4 (by omega)
        have h7 : 1 * s.c ≤ oft s T * s.c := Nat.mul_le_mul_right _ h6
        omega
      · rw [if_neg hh]; omega
    · have htk : l.take (k + 1) = l.take k ++ [s] := by rw [List.take_add_one, hs]; rfl
      rw [htk] at hz
      rcases List.mem_append.1 hz with hz | hz
      · exact i2 z hz hc hzd
      · rw [List.mem_singleton.1 hz] at hc hzd ⊢
        rcases Nat.eq_zero_or_pos s.p with hp | hp
        · exfalso
          have h5 : oft s T = 18446744073709551615 := by unfold oft; rw [if_neg (by omega), if_pos hp]
          have h7 : sM (oft s T) s.c ≤ T := by omega
          rw [h2, h5] at h7
          have h6 : 18446744073709551615 * 1 ≤ 18446744073709551615 * s.c := Nat.mul_le_mul_left _ hc
          omega
        · exact hp

theorem run_make_u (w : World) (n : Nat) (hn : n ≤ 1000000) : Sem.run Try.prog (Instr.makeSlice 23 (.int .u64 (n : Int)) (.int .u64 (n : Int))) w = .ok (.slice (some ⟨w.heap.size, 0, none⟩) n n) (w.alloc (.cells (List.replicate n (Value.int .u64 0)).toArray 22)) := by
  have hrun := run_make_row' (P := Try.prog) 23 22 (.int .u64 0) 8 Try.underlying23 (by kernel_rfl) rfl .u64 .u64 n (by omega) (by omega) w
  have hm : madeCells #[Value.int .u64 0] n = (List.replicate n (Value.int .u64 0)).toArray := by rw [← toList_madeCells_one (Value.int .u64 0) n]
  rw [hm] at hrun
  exact hrun
def wRow (T : Nat) (f : Nat → Nat) : List Value := (List.range T).map fun y => U (f y)
theorem wRow_at {T y : Nat} {f : Nat → Nat} (h : y < T) : (wRow T f)[y]? = some (U (f y)) := by
  unfold wRow
  rw [List.getElem?_map, List.getElem?_range h]
  rfl
theorem wRow_set {T x : Nat} {f g : Nat → Nat} (hx : x < T) (h : ∀ y, y < T → g y = if y = x then g x else f y) : (wRow T f).set x (U (g x)) = wRow T g := by
  apply List.ext_getElem?
  intro i
  rw [List.getElem?_set]
  by_cases hi : i < T
  · rw [wRow_at hi, wRow_at hi, h i hi]
    by_cases e : x = i
    · subst e
      rw [if_pos rfl, if_pos (by unfold wRow; simpa using hx), if_pos rfl]
    · rw [if_neg e, if_neg (fun q => e q.symm)]
  · rw [List.getElem?_eq_none (l := wRow T f) (by unfold wRow; simpa using hi), List.getElem?_eq_none (l := wRow T g) (by unfold wRow; simpa using hi)]
    by_cases e : x = i
    · omega
    · rw [if_neg e]

set_option maxRecDepth 100000 in
set_option maxHeartbeats 4000000 in
theorem wanted_any {A : Option Addr} {n cap T : Nat} {l : List St} {w : World} (hr : SRow w A l) (hok : ∀ s ∈ l, s.ok) (hn : l.length = n) (hnn : n ≤ 4000) (hT : T ≤ 65536) (hp : ∀ s ∈ l, 0 < s.c → s.d ≤ T → 0 < s.p) (hov : ∀ k y, k ≤ n → y ≤ T → wnt (l.take k) y ≤ 65536) :
    Calls Try.prog 39 #[.slice A n cap, U T] w fun e w' => ∃ X, e = .returned (.slice (some ⟨X, 0, none⟩) (T + 1) (T + 1)) ∧ w.heap.size ≤ X ∧ w'.heap[X]? = some (.cells (wRow (T + 1) (wnt l)).toArray 22 (0, 0)) ∧ Only (fun _ => False) w w' := by
  obtain ⟨Z, hZ⟩ : ∃ Z : Ending → World → Prop, Z = fun e w' => ∃ X, e = .returned (.slice (some ⟨X, 0, none⟩) (T + 1) (T + 1)) ∧ w.heap.size ≤ X ∧ w'.heap[X]? = some (.cells (wRow (T + 1) (wnt l)).toArray 22 (0, 0)) ∧ Only (fun _ => False) w w' := ⟨_, rfl⟩
  rw [← hZ]
  have hZ' := Lib.hid hZ
  obtain ⟨T1, hT1⟩ : ∃ T1, T1 = T + 1 := ⟨_, rfl⟩
  have hmk := fun W => run_make_u W T1 (by omega)
  have hadd : (T : Int) + 1 = (T1 : Int) := by omega
  obtain ⟨W1, hW1⟩ : ∃ W1, W1 = w.alloc (.cells (Array.replicate T1 (Value.int .u64 0)) 22) := ⟨_, rfl⟩
  obtain ⟨X, hX⟩ : ∃ X, X = w.heap.size := ⟨_, rfl⟩
  have b0 : W1.heap[X]? = some (.cells (wRow T1 (wnt (l.take 0))).toArray 22 (0, 0)) := by
    rw [hW1]
    refine (heap_new_at _ _ hX.symm).trans ?_
    rw [← List.toArray_replicate]
    have : wRow T1 (wnt (l.take 0)) = List.replicate T1 (Value.int .u64 0) := by
      unfold wRow
      refine List.eq_replicate_iff.2 ⟨by simp, fun b hb => ?_⟩
      obtain ⟨i, -, rfl⟩ := List.mem_map.1 hb
      rfl
    rw [this]
  have hO1 : Only (fun _ => False) w W1 := by rw [hW1]; exact (Only.refl _ w).alloc _
  have hr' := Lib.hid hr
  have hn' := Lib.hid hn
  have hok' := Lib.hid hok
  have hp' := Lib.hid hp
  have hov' := Lib.hid hov
  have hT1' := Lib.hid hT1
  have hW1' := Lib.hid hW1
  have hX' := Lib.hid hX
  have b0' := Lib.hid b0
  have hO1' := Lib.hid hO1
  clear hZ hr hn hok hp hov hT1 hW1 hX b0 hO1
  go_enter Try.func39, Try.ntmps39
  go_upto_region 2 with fail
  rw [← hX'.out]
  rw [← hW1'.out]
  clear hmk hadd
  go_wp2
  go_loopw [7, 8, 14] (fun _ _ i wr => ∃ k : Nat, i = .int .i64 (k : Int) ∧ k ≤ n ∧ Hid (wr.heap[X]? = some (.cells (wRow T1 (wnt (l.take k))).toArray 22 (0, 0))) ∧ Hid (Only (fun _ => False) w wr)) (fun _ _ i _ => (n - intOf i).toNat)
  case atStart => exact ⟨0, rfl, Nat.zero_le _, b0', hO1'⟩
  case round =>
    obtain ⟨k, rfl, hk, hB, hO⟩ := hrel
    by_cases hkn : k < n
    · have hkn' : (k : Int) < n := by omega
      obtain ⟨s, hs⟩ : ∃ y, l[k]? = some y := ⟨_, List.getElem?_eq_getElem (by have := hn'.out; omega)⟩
      obtain ⟨b, off, rfl, hb, c0, c1, c2⟩ := (hr'.out.new hO.out) k s hs
      have hsok := Lib.hid (hok'.out s (List.mem_of_getElem? hs))
      have hsp := Lib.hid (hp'.out s (List.mem_of_getElem? hs))
      have hwt := Lib.hid (fun y => wnt_take (y := y) hs)
      obtain ⟨W4, hW4⟩ : ∃ W4, W4 = wr.alloc (.cells #[U s.c, U s.d, U s.p] 61) := ⟨_, rfl⟩
      obtain ⟨Y, hY⟩ : ∃ Y, Y = wr.heap.size := ⟨_, rfl⟩
      have y4 : W4.heap[Y]? = some (.cells [U s.c, U s.d, U s.p].toArray 61 (0, 0)) := by rw [hW4]; exact heap_new_at _ _ hY.symm
      have hO4 := Lib.hid (show Only (fun _ => False) w W4 from by rw [hW4]; exact hO.out.alloc _)
      have hB4 := Lib.hid (show W4.heap[X]? = some (.cells (wRow T1 (wnt (l.take k))).toArray 22 (0, 0)) from by rw [hW4]; exact heap_kept_alloc hB.out _)
      have hYX : Y ≠ X := fun e => by have := row_lt hB.out; omega
      have y4' := Lib.hid y4
      have x0 := row_cell y4 (i := 0) rfl
      have x1 := row_cell y4 (i := 1) rfl
      have hW4' := Lib.hid hW4
      have hY' := Lib.hid hY
      clear hs hW4 hY y4 hB hO
      go_upto_region 5 with fail
      rw [← hY'.out]
      rw [← hW4'.out]
      clear c0 c1 c2
      by_cases hc0 : s.c = 0
      · have hc1 : ((s.c : Int) == 0) = true := by simpa using hc0
        have hnx := Lib.hid (show W4.heap[X]? = some (.cells (wRow T1 (wnt (l.take (k + 1)))).toArray 22 (0, 0)) from by
          rw [hB4.out]
          have : wnt (l.take (k + 1)) = wnt (l.take k) := funext fun y => by
            rw [hwt.out y, hc0]
            split <;> rfl
          rw [this])
        clear hc0
        go_wp2
        go_roundw
        case rel => exact ⟨k + 1, by go_num, by omega, hnx, hO4⟩
        case measure => simp [intOf]; omega
      · have hc1 : ((s.c : Int) == 0) = false := by simpa using hc0
        go_wp2
        go_loopw [8] (fun u wq => ∃ x : Nat, u = U x ∧ Hid (s.d ≤ x ∧ x ≤ 18446744073709551615 ∧ (x ≤ T → (x - s.d) % s.p = 0)) ∧ Hid (wq.heap[X]? = some (.cells (wRow T1 (fun y => wnt (l.take k) y + if hit s y = true ∧ y < x then s.c else 0)).toArray 22 (0, 0))) ∧ Hid (Only (fun k => k = X) W4 wq)) (fun u _ => T + 1 - (intOf u).toNat)
        case atStart => exact ⟨s.d, rfl, Lib.hid ⟨Nat.le_refl _, hsok.out.2.1, fun _ => by rw [Nat.sub_self]; exact Nat.zero_mod _⟩, Lib.hid (by
          rw [hB4.out]
          have : (fun y => wnt (l.take k) y + if hit s y = true ∧ y < s.d then s.c else 0) = wnt (l.take k) := funext fun y => by
            rw [if_neg (fun h => by have := (of_decide_eq_true h.1).1; omega), Nat.add_zero]
          rw [this]), Only.refl _ _⟩
        case round =>
          obtain ⟨x, rfl, hxf, hBx, hOx⟩ := hrel
          have z0 := row_cell (hOx.out.heap y4'.out hYX) (i := 0) rfl
          have z2 := row_cell (hOx.out.heap y4'.out hYX) (i := 2) rfl
          by_cases hxT : x ≤ T
          · have hxT' : (x : Int) ≤ T := by omega
            obtain ⟨f1, f2, f3⟩ := hxf.out
            have hpp : 0 < s.p := hsp.out (by omega) (by omega)
            have hxn : x < T1 := by have := hT1'.out; omega
            have hxn' : (x : Int) < (T1 : Int) := by omega
            have hhit : hit s x = true := decide_eq_true ⟨f1, f3 hxT⟩
            have e0 := row_cell hBx.out (wRow_at hxn)
            have e1 := row_free hBx.out x
            rw [if_neg (fun h => by omega), Nat.add_zero] at e0
            have hv0 := hov'.out k x hk hxT
            have hv1 := hov'.out (k + 1) x hkn hxT
            rw [hwt.out x, if_pos hhit] at hv1
            obtain ⟨v, hv⟩ : ∃ v, v = wnt (l.take k) x := ⟨_, rfl⟩
            rw [← hv] at e0 hv0 hv1
            obtain ⟨a, ha⟩ : ∃ a, a = sA x s.p := ⟨_, rfl⟩
            have qa := Lib.hid (fun W => show Calls Try.prog 32 #[U x, U s.p] W fun e w' => e = .returned (U a) ∧ w' = W from by rw [ha]; exact add_any x s.p W f2 hsok.out.2.2)
            have ha1 : x < a ∧ a ≤ 18446744073709551615 ∧ (a ≤ T → a = x + s.p) ∧ ∀ y, y ≤ T → y < a → hit s y = true → y ≤ x := by
              have h1 : a = if 18446744073709551615 < x + s.p then 18446744073709551615 else x + s.p := ha
              refine ⟨by split at h1 <;> omega, by split at h1 <;> omega, fun h => by split at h1 <;> omega, fun y hy hya hh => ?_⟩
              rcases Nat.lt_or_ge x y with hlt | hge
              · exfalso
                obtain ⟨g1, g2⟩ := of_decide_eq_true hh
                have h2 : y < x + s.p := by split at h1 <;> omega
                have h3 := f3 hxT
                have h4 : (y - s.d) = (x - s.d) + (y - x) := by omega
                rw [h4, Nat.add_mod, h3, Nat.zero_add, Nat.mod_mod, Nat.mod_eq_of_lt (by omega)] at g2
                omega
              · exact hge
            have ha2 := Lib.hid ha1
            obtain ⟨ha3, -⟩ := ha1
            have hnx := Lib.hid (show s.d ≤ a ∧ a ≤ 18446744073709551615 ∧ (a ≤ T → (a - s.d) % s.p = 0) from ⟨by omega, ha2.out.2.1, fun h => by
              have h1 := ha2.out.2.2.1 h
              have h2 := f3 hxT
              rw [h1, show x + s.p - s.d = (x - s.d) + s.p by omega, Nat.add_mod_right]
              exact h2⟩)
            have hset := Lib.hid (fun nq => show ((wr.drewN nq).setCell ⟨X, x, none⟩ (.int .u64 ((v : Int) + (s.c : Int)))).heap[X]? = some (.cells (wRow T1 (fun y => wnt (l.take k) y + if hit s y = true ∧ y < a then s.c else 0)).toArray 22 (0, 0)) from by
              have h1 := row_set (show (wr.drewN nq).heap[X]? = _ from hBx.out) x (.int .u64 ((v : Int) + (s.c : Int)))
              rw [h1]
              have h2 : Value.int .u64 ((v : Int) + (s.c : Int)) = U ((fun y => wnt (l.take k) y + if hit s y = true ∧ y < a then s.c else 0) x) := by
                dsimp only
                rw [if_pos ⟨hhit, ha3⟩, ← hv]
                rfl
              rw [h2]
              rw [wRow_set (f := fun y => wnt (l.take k) y + if hit s y = true ∧ y < x then s.c else 0) (g := fun y => wnt (l.take k) y + if hit s y = true ∧ y < a then s.c else 0) hxn (fun y hy => by
                by_cases e : y = x
                · rw [if_pos e, e]
                · rw [if_neg e]
                  by_cases hc : hit s y = true ∧ y < x
                  · rw [if_pos hc, if_pos ⟨hc.1, by omega⟩]
                  · rw [if_neg hc, if_neg (fun h => by
                      have := ha2.out.2.2.2 y (by have := hT1'.out; omega) h.2 h.1
                      exact hc ⟨h.1, by omega⟩)])])
            have hOv := Lib.hid (fun nq => show Only (fun k => k = X) W4 ((wr.drewN nq).setCell ⟨X, x, none⟩ (.int .u64 ((v : Int) + (s.c : Int)))) from (hOx.out.drewN nq).setCell (p := ⟨X, x, none⟩) (fun _ => rfl) _)
            have hsum : (v : Int) + (s.c : Int) ≤ 65536 := by omega
            have zz2 := Lib.hid (fun nq => And.intro (hset.out nq) (show ((wr.drewN nq).setCell ⟨X, x, none⟩ (.int .u64 ((v : Int) + (s.c : Int)))).cell? ⟨Y, 2, none⟩ = some (U s.p) from row_cell ((hOv.out nq).heap y4'.out hYX) (i := 2) rfl))
            clear hv ha f1 f2 f3 hhit
            go_upto_region 9 with fail
            refine wp_region_quiet_tail_lit 8 (by kernel_rfl) (by kernel_rfl) ?_
            simp only [List.take_succ_cons, List.take_zero, List.drop_succ_cons, List.drop_zero]
            repeat (go_big_quiet_step (fail))
            refine wpQuiet_nil ?_
            rintro _ ⟨nq, rfl⟩
            have ee0 : (wr.drewN nq).cell? ⟨X, x, none⟩ = some (U v) := e0
            have ee1 : (wr.drewN nq).frozen? ⟨X, x, none⟩ = false := e1
            have hsetn := Lib.hid (hset.out nq)
            have hOvn := Lib.hid (hOv.out nq)
            obtain ⟨-, zz3⟩ := zz2.out nq
            go_wp2_with (go_at_call 32; refine (qa.out _).mono ?_; rintro e w9 ⟨rfl, hw⟩; subst hw)
            go_roundw
            case rel => exact ⟨a, rfl, hnx, hsetn, hOvn⟩
            case measure => simp [intOf]; omega
          · have hxT' : ¬ (x : Int) ≤ T := by omega
            have hfl := Lib.hid (show wr.heap[X]? = some (.cells (wRow T1 (wnt (l.take (k + 1)))).toArray 22 (0, 0)) from by
              rw [hBx.out]
              have : wRow T1 (fun y => wnt (l.take k) y + if hit s y = true ∧ y < x then s.c else 0) = wRow T1 (wnt (l.take (k + 1))) := by
                unfold wRow
                refine List.map_congr_left fun y hy => ?_
                have hy := List.mem_range.1 hy
                have := hT1'.out
                show U (wnt (l.take k) y + if hit s y = true ∧ y < x then s.c else 0) = U (wnt (l.take (k + 1)) y)
                rw [hwt.out y]
                by_cases hh : hit s y = true
                · rw [if_pos ⟨hh, by omega⟩, if_pos hh]
                · rw [if_neg (fun q => hh q.1), if_neg hh]
              rw [this])
            have hOl := Lib.hid (hO4.out.trans hOx.out (fun j hj e => by have := hX'.out; omega))
            go_wp2
            go_roundw
            case rel => exact ⟨k + 1, by go_num, by omega, hfl, hOl⟩
            case measure => simp [intOf]; omega
    · obtain rfl : k = n := by omega
      have hfin := Lib.hid (show Z (.returned (.slice (some ⟨X, 0, none⟩) T1 T1)) wr from by
        rw [hZ'.out]
        have h1 := hB.out
        rw [← hn'.out, List.take_length, hT1'.out] at h1
        exact ⟨X, by rw [hT1'.out], by rw [hX'.out]; exact Nat.le_refl _, h1, hO.out⟩)
      go_wp2
      exact hfin.out

/-- The sum of a row up to a place. -/
def upSum (f : Nat → Nat) : Nat → Nat
  | 0 => 0
  | k + 1 => upSum f k + f k
theorem upSum_le {f : Nat → Nat} {B : Nat} {k : Nat} (h : ∀ y, y < k → f y ≤ B) : upSum f k ≤ k * B := by
  induction k with
  | zero => simp [upSum]
  | succ k ih =>
    have h1 := ih fun y hy => h y (by omega)
    have h2 := h k (by omega)
    rw [upSum, Nat.succ_mul]
    omega
def FitS (l : List St) (u : Nat) : Prop := u = 0 ∨ (demS l u ≤ u ∧ ∀ x, 1 ≤ x → x ≤ u → upSum (wnt l) (x + 1) ≤ x)
def FitEnd (l : List St) (w : World) (u : Nat) (e : Ending) (w' : World) : Prop := ∃ B : Bool, e = .returned (.bool B) ∧ (B = true ↔ FitS l u) ∧ Only (fun _ => False) w w'

set_option maxRecDepth 100000 in
set_option maxHeartbeats 4000000 in
theorem fits_any {A : Option Addr} {n cap T : Nat} {l : List St} {w : World} (hr : SRow w A l) (hok : ∀ s ∈ l, s.ok) (hn : l.length = n) (hnn : n ≤ 4000) (hT : T ≤ 18446744073709551615) :
    Calls Try.prog 28 #[.slice A n cap, U T] w (FitEnd l w (min T 65536)) := by
  obtain ⟨Z, hZ⟩ : ∃ Z, Z = FitEnd l w (min T 65536) := ⟨_, rfl⟩
  rw [← hZ]
  have hZ' := Lib.hid hZ
  obtain ⟨u, hu⟩ : ∃ u, u = min T 65536 := ⟨_, rfl⟩
  have hu1 : u ≤ 65536 := by omega
  obtain ⟨D, hD⟩ : ∃ D, D = demS l u := ⟨_, rfl⟩
  have hdem := Lib.hid (fun W (ho : Only (fun _ => False) w W) => show Calls Try.prog 34 #[.slice A n cap, U u] W fun e w' => e = .returned (U D) ∧ Only (fun _ => False) W w' from by rw [hD]; exact demand_any (cap := cap) (x := u) (hr.new ho) hok hn hnn (by omega))
  have hmin : (if (65536 : Int) < (T : Int) then (65536 : Int) else (T : Int)) = (u : Int) := by split <;> omega
  rw [← hu] at hZ'
  have hr' := Lib.hid hr
  have hok' := Lib.hid hok
  have hn' := Lib.hid hn
  clear hZ hr hok hn hu
  go_enter Try.func28, Try.ntmps28
  go_upto_region 2 with fail
  clear hmin
  by_cases hu0 : u = 0
  · have hu2 : ((u : Int) == 0) = true := by simpa using hu0
    have hfin := Lib.hid (show Z (.returned (.bool true)) w from by
      rw [hZ'.out]
      exact ⟨true, rfl, ⟨fun _ => Or.inl hu0, fun _ => rfl⟩, Only.refl _ _⟩)
    go_wp2
    exact hfin.out
  have hu2 : ((u : Int) == 0) = false := by simpa using hu0
  have hD' := Lib.hid hD
  clear hD
  by_cases hdu : u < D
  · have hdu' : (u : Int) < (D : Int) := by omega
    have hfin := Lib.hid (fun w1 (h1 : Only (fun _ => False) w w1) => show Z (.returned (.bool false)) w1 from by
      rw [hZ'.out]
      refine ⟨false, rfl, ⟨fun h => (by cases h), fun h => ?_⟩, h1⟩
      rcases h with h | h
      · exact absurd h hu0
      · have := h.1; have := hD'.out; omega)
    clear hdu
    go_wp2_with (go_at_call 34; refine (hdem.out _ (Only.refl _ _)).mono ?_; rintro e w1 ⟨rfl, h1⟩; have h1' := Lib.hid h1; clear h1)
    exact hfin.out _ h1'.out
  have hdl : demS l u ≤ u := by have := hD'.out; omega
  have hplain := fun y (hy : y ≤ u) => dem_plain (l := l) hu1 hy
  have hwan := Lib.hid (fun W (ho : Only (fun _ => False) w W) => wanted_any (cap := cap) (T := u) (hr'.out.new ho) hok'.out hn'.out hnn hu1
    (by
      have h2 := (hplain 0 (Nat.zero_le _) l.length (Nat.le_refl _) (by rw [List.take_length]; exact hdl)).2
      rw [List.take_length] at h2
      exact h2)
    (fun k y hk hy => by
      have hmono : ∀ j, k + j ≤ l.length → wnt (l.take k) y ≤ wnt (l.take (k + j)) y := fun j => by
        induction j with
        | zero => intro _; exact Nat.le_refl _
        | succ j ih =>
          intro hj
          have h3 := ih (by omega)
          have h4 := wnt_take (y := y) (List.getElem?_eq_getElem (l := l) (i := k + j) (by omega))
          rw [show k + (j + 1) = k + j + 1 by omega, h4]
          omega
      have h2 := (hplain y hy l.length (Nat.le_refl _) (by rw [List.take_length]; exact hdl)).1
      have h3 := hmono (l.length - k) (by have := hn'.out; omega)
      rw [show k + (l.length - k) = l.length by have := hn'.out; omega] at h3
      rw [List.take_length] at h2 h3
      omega))
  have hwl : ∀ y, y ≤ u → wnt l y ≤ u := fun y hy => by
    have h2 := (hplain y hy l.length (Nat.le_refl _) (by rw [List.take_length]; exact hdl)).1
    rw [List.take_length] at h2
    omega
  clear hplain
  have hwl' := Lib.hid hwl
  have hdu' : ¬ (u : Int) < (D : Int) := by omega
  have hdl0 := Lib.hid hdl
  clear hdu hdl hwl
  go_wp2_with (first | (go_at_call 34; refine (hdem.out _ (Only.refl _ _)).mono ?_; rintro e w1 ⟨rfl, h1⟩; have h1' := Lib.hid h1; clear h1) | (go_at_call 39; refine (hwan.out _ h1'.out).mono ?_; rintro e w2 ⟨X, rfl, h3, h4, h2⟩))
  have h2' := Lib.hid (h1'.out.trans' h2)
  have h4' := Lib.hid h4
  clear h2 h4
  obtain ⟨f, hf⟩ : ∃ f, f = wnt l := ⟨_, rfl⟩
  have hf' := Lib.hid hf
  rw [← hf] at h4' hwl'
  clear hf hdem hwan
  go_loopw [5, 21] (fun s i wr => ∃ k a : Nat, i = .int .i64 (k : Int) ∧ k ≤ u + 1 ∧ s = U a ∧ Hid (a = upSum f k) ∧ Hid (∀ x, 1 ≤ x → x < k → upSum f (x + 1) ≤ x) ∧ Hid (Only (fun _ => False) w2 wr)) (fun _ i _ => u + 1 - (intOf i).toNat)
  case atStart => exact ⟨0, 0, rfl, by omega, rfl, Lib.hid rfl, Lib.hid (fun x h1 h2 => by omega), Lib.hid (Only.refl _ _)⟩
  case round =>
    obtain ⟨k, a, rfl, hk, rfl, hak, hlo, hO⟩ := hrel
    by_cases hku : k < u + 1
    · have hku' : (k : Int) < (u : Int) + 1 := by omega
      have c0 := row_cell (hO.out.heap h4'.out (fun h => h)) (wRow_at hku)
      have hS0 : upSum f k ≤ k * 65536 := upSum_le fun y hy => by have := hwl'.out y (by omega); omega
      have hS1 := hwl'.out k (by omega)
      have hS2 : upSum f (k + 1) = upSum f k + f k := rfl
      have ha := hak.out
      obtain ⟨b, hb⟩ : ∃ b, b = f k := ⟨_, rfl⟩
      rw [← ha, ← hb] at hS2
      rw [← ha] at hS0
      rw [← hb] at hS1 c0
      have hS3 : k * 65536 ≤ 65536 * 65536 := Nat.mul_le_mul_right _ (by omega)
      have hab : (a : Int) + (b : Int) ≤ 18446744073709551615 := by omega
      have hnx := Lib.hid (fun (h : k = 0 ∨ ¬ k < a + b) => show ∀ x, 1 ≤ x → x < k + 1 → upSum f (x + 1) ≤ x from fun x h1 h2 => by
        by_cases e : x = k
        · subst e
          rw [hS2]
          omega
        · exact hlo.out x h1 (by omega))
      have hbad := Lib.hid (fun (h0 : k ≠ 0) (h : k < a + b) W (hW : Only (fun _ => False) w2 W) => show Z (.returned (.bool false)) W from by
        rw [hZ'.out]
        refine ⟨false, rfl, ⟨fun h => (by cases h), fun h => ?_⟩, h2'.out.trans' hW⟩
        rcases h with h | h
        · exact absurd h hu0
        · have h3 := h.2 k (by omega) (by omega)
          rw [← hf'.out, hS2] at h3
          omega)
      have hS2' := Lib.hid hS2
      clear ha hak hb hS0 hS1 hS2 hS3 hlo
      by_cases hk0 : k = 0
      · have hk1 : ¬ 0 < (k : Int) := by omega
        have hn0 := Lib.hid (hnx.out (Or.inl hk0))
        clear hk0
        go_wp2
        go_roundw
        case rel => exact ⟨k + 1, a + b, by go_num, by omega, by go_num, Lib.hid hS2'.out.symm, hn0, hO⟩
        case measure => simp [intOf]; omega
      · have hk1 : 0 < (k : Int) := by omega
        by_cases hgt : k < a + b
        · have hgt' : (k : Int) < (a : Int) + (b : Int) := by omega
          have hb0 := Lib.hid (fun W hW => hbad.out hk0 hgt W hW)
          clear hk0 hgt
          go_wp2
          exact hb0.out _ hO.out
        · have hgt' : ¬ (k : Int) < (a : Int) + (b : Int) := by omega
          have hn0 := Lib.hid (hnx.out (Or.inr hgt))
          clear hk0 hgt
          go_wp2
          go_roundw
          case rel => exact ⟨k + 1, a + b, by go_num, by omega, by go_num, Lib.hid hS2'.out.symm, hn0, hO⟩
          case measure => simp [intOf]; omega
    · obtain rfl : k = u + 1 := by omega
      have hfin := Lib.hid (show Z (.returned (.bool true)) wr from by
        rw [hZ'.out]
        refine ⟨true, rfl, ⟨fun _ => Or.inr ⟨hdl0.out, fun x h1 h2 => ?_⟩, fun _ => rfl⟩, h2'.out.trans' hO.out⟩
        rw [← hf'.out]
        exact hlo.out x h1 (by omega))
      go_wp2
      exact hfin.out
end Edf
end Go.Proofs.Ytkolbaadakhciaa
