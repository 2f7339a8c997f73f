/- The multiple of a row; the fixed calls of layer 32's statements. -/
import Derived.Test.YtkolbaadakhciaaHy4
namespace Go.Proofs.Ytkolbaadakhciaa
namespace Hyp
open Go Go.RowKit
open Bch (U sA sM sA_le sM_le ret_u mul_any add_any mul64_any)

def URow (w : World) (A : Option Addr) (l : List Nat) : Prop :=
  ∀ k x, l[k]? = some x → ∃ b off, A = some ⟨b, off, none⟩ ∧ w.cell? ⟨b, off + k, none⟩ = some (U x) ∧ b < w.heap.size
theorem URow.new {w w' : World} {A : Option Addr} {l : List Nat} (h : URow w A l) (ho : Only (fun _ => False) w w') : URow w' A l := fun k x hk => by
  obtain ⟨b, off, rfl, h1, h2⟩ := h k x hk
  exact ⟨b, off, rfl, ho.cell h1 (fun h => h), Nat.lt_of_lt_of_le h2 ho.size⟩
def allS (l : List Nat) : Nat := l.foldl lcmS 1
theorem allS_le (l : List Nat) : allS l ≤ 18446744073709551615 := by
  unfold allS
  suffices h : ∀ (l : List Nat) (n : Nat), n ≤ 18446744073709551615 → l.foldl lcmS n ≤ 18446744073709551615 from h l 1 (by omega)
  intro l
  induction l with
  | nil => exact fun n h => h
  | cons x l ih => exact fun n _ => ih _ (lcmS_le n x)
theorem allS_take {l : List Nat} {k x : Nat} (h : l[k]? = some x) : allS (l.take (k + 1)) = lcmS (allS (l.take k)) x := by
  unfold allS
  rw [List.take_add_one, h, List.foldl_append]
  rfl
theorem lcmS_top {x : Nat} (hx : x ≠ 0) : lcmS 18446744073709551615 x = 18446744073709551615 := by
  unfold lcmS
  rw [if_neg (by omega)]
  obtain ⟨g, hg⟩ : ∃ g, g = Nat.gcd 18446744073709551615 x := ⟨_, rfl⟩
  rw [← hg]
  have h1 : g ∣ 18446744073709551615 := hg ▸ Nat.gcd_dvd_left _ _
  have h2 : g ∣ x := hg ▸ Nat.gcd_dvd_right _ _
  have h3 : g ≤ x := Nat.le_of_dvd (by omega) h2
  have h4 : 18446744073709551615 / g * g = 18446744073709551615 := Nat.div_mul_cancel h1
  have h5 : 18446744073709551615 / g * g ≤ 18446744073709551615 / g * x := Nat.mul_le_mul_left _ h3
  unfold sM
  split <;> omega

set_option maxHeartbeats 1000000 in
theorem all_any {A : Option Addr} {n cap : Nat} {l : List Nat} {w : World} (hr : URow w A l) (hn : l.length = n) (hnn : n ≤ 1000) (hb : ∀ x ∈ l, x ≤ 18446744073709551615) :
    Calls Try.prog 15 #[.slice A n cap] w fun e w' => e = .returned (U (allS l)) ∧ Only (fun _ => False) w w' := by
  have hr' := Lib.hid hr
  have hn' := Lib.hid hn
  have hb' := Lib.hid hb
  obtain ⟨D, hD⟩ : ∃ D : Nat → Nat, D = fun k => allS (l.take k) := ⟨_, rfl⟩
  have hD' := Lib.hid hD
  have hD0 : 1 = D 0 := by rw [hD]; rfl
  have hDn : allS l = D n := by rw [hD, ← hn]; simp
  rw [hDn]
  obtain ⟨Z, hZ⟩ : ∃ Z : Ending → World → Prop, Z = fun e w' => e = .returned (U (D n)) ∧ Only (fun _ => False) w w' := ⟨_, rfl⟩
  rw [← hZ]
  have hZ' := Lib.hid hZ
  have hD0' := Lib.hid hD0
  clear hr hn hb hD hD0 hDn hZ
  go_enter Try.func15, Try.ntmps15
  go_wp2
  go_loopw [3, 5, 8] (fun u3 _ u8 wr => ∃ k : Nat, u3 = U (D k) ∧ u8 = .int .i64 k ∧ k ≤ n ∧ Hid (Only (fun _ => False) w wr)) (fun _ _ i _ => (n - intOf i).toNat)
  case atStart => exact ⟨0, by rw [← hD0'.out]; rfl, rfl, Nat.zero_le _, Only.refl _ _⟩
  case round =>
    obtain ⟨k, rfl, rfl, hk, hO⟩ := hrel
    by_cases hkn : k < n
    · have hkn' : (k : Int) < n := by omega
      obtain ⟨x, hx⟩ : ∃ y, l[k]? = some y := ⟨_, List.getElem?_eq_getElem (by have := hn'.out; omega)⟩
      obtain ⟨b, off, rfl, c0, hbl⟩ := (hr'.out.new hO.out) k x hx
      have hxb := hb'.out x (List.mem_of_getElem? hx)
      have hstep : D (k + 1) = lcmS (D k) x := by rw [hD'.out]; exact allS_take hx
      have hDk : D k ≤ 18446744073709551615 := by rw [hD'.out]; exact allS_le _
      have q1 : Hid (∀ W, Calls Try.prog 14 #[U (D k), U x] W fun e w' => e = .returned (U (D (k + 1))) ∧ Only (fun _ => False) W w') := by
        rw [hstep]; exact fun W => lcm_any (D k) x W hDk hxb
      clear hstep hDk hxb
      go_wp2_with (go_at_call 14; with_reducible refine (q1.out _).mono ?_; rintro e w1 ⟨rfl, h1⟩; have h1' := Lib.hid h1; clear h1)
      go_roundw
      case rel => exact ⟨k + 1, rfl, by go_num, by omega, hO.out.trans' h1'.out⟩
      case measure => simp [intOf]; omega
    · obtain rfl : k = n := by omega
      go_wp2
      rw [hZ'.out]
      exact ⟨rfl, hO.out⟩

theorem k_lcm (W : World) : Calls Try.prog 14 #[.int .u64 4, .int .u64 6] W fun e w' => e = .returned (.int .u64 12) ∧ Only (fun _ => False) W w' :=
  (lcm_any 4 6 W (by omega) (by omega)).mono fun e w' h => ⟨by rw [h.1]; rfl, h.2⟩
theorem k_gcd (W : World) : Calls Try.prog 12 #[.int .u64 0, .int .u64 5] W fun e w' => e = .returned (.int .u64 5) ∧ Only (fun _ => False) W w' :=
  (gcd_any 0 5 W (by omega) (by omega)).mono fun e w' h => ⟨by rw [h.1]; rfl, h.2⟩
theorem k_add (W : World) : Calls Try.prog 20 #[.agg #[.int .u64 1, .int .u64 2], .agg #[.int .u64 1, .int .u64 6]] W fun e w' => e = .returned (.agg #[.int .u64 2, .int .u64 3]) ∧ Only (fun _ => False) W w' :=
  (add2_any 1 2 1 6 W (by omega) (by omega) (by omega) (by omega)).mono fun e w' h => ⟨by rw [h.1]; rfl, h.2⟩
theorem k_less (W : World) : Calls Try.prog 18 #[.agg #[.int .u64 1, .int .u64 3], .agg #[.int .u64 1, .int .u64 2]] W fun e w' => e = .returned (.bool true) ∧ Only (fun _ => False) W w' :=
  (less_any 1 3 1 2 W (by omega) (by omega) (by omega) (by omega)).mono fun e w' h => ⟨by rw [h.1]; rfl, h.2⟩
theorem k_less2 (W : World) : Calls Try.prog 18 #[.agg #[.int .u64 0, .int .u64 0], .agg #[.int .u64 1, .int .u64 2]] W fun e w' => e = .returned (.bool false) ∧ Only (fun _ => False) W w' :=
  (less_any 0 0 1 2 W (by omega) (by omega) (by omega) (by omega)).mono fun e w' h => ⟨by rw [h.1]; rfl, h.2⟩
theorem k_all {W : World} {g : Nat} (h : W.heap[g]? = some (.cells #[.int .u64 2, .int .u64 3, .int .u64 4] 22 (0, 0))) : Calls Try.prog 15 #[.slice (some ⟨g, 0, none⟩) 3 3] W fun e w' => e = .returned (.int .u64 12) ∧ Only (fun _ => False) W w' := by
  refine (all_any (l := [2, 3, 4]) (fun k x hk => ?_) rfl (by simp) (by simp)).mono fun e w' h => ⟨by rw [h.1]; rfl, h.2⟩
  have hl := lt_of_block h
  have h' : W.heap[g]? = some (.cells [U 2, U 3, U 4].toArray 22 (0, 0)) := h
  refine ⟨g, 0, rfl, row_cell h' ?_, hl⟩
  rw [Nat.zero_add]
  match k, hk with
  | 0, hk => cases hk; rfl
  | 1, hk => cases hk; rfl
  | 2, hk => cases hk; rfl
  | k + 3, hk => simp at hk

set_option maxRecDepth 100000 in
set_option maxHeartbeats 4000000 in
theorem fixed_any (w : World) : Calls Try.prog 10 #[] w fun e w' => e = .returned (.bool true) ∧ Only (fun _ => False) w w' := by
  obtain ⟨Z, hZ⟩ : ∃ Z : Ending → World → Prop, Z = fun e w' => e = .returned (.bool true) ∧ Only (fun _ => False) w w' := ⟨_, rfl⟩
  rw [← hZ]
  have hfin := Lib.hid (fun W (ho : Only (fun _ => False) w W) => show Z (.returned (.bool true)) W from by rw [hZ]; exact ⟨rfl, ho⟩)
  have q1 := Lib.hid k_lcm
  have q2 := Lib.hid k_gcd
  have q3 := Lib.hid k_add
  have q4 := Lib.hid k_less
  have q5 := Lib.hid k_less2
  clear hZ
  go_enter Try.func10, Try.ntmps10
  go_wp2_with (go_at_call 20; with_reducible refine (q3.out _).mono ?_; rintro e w1 ⟨rfl, h1⟩; have h1' := Lib.hid h1; clear h1)
  obtain ⟨W2, hW2⟩ : ∃ W2, W2 = w1.alloc (.cells #[.int .u64 2, .int .u64 3] 29) := ⟨_, rfl⟩
  obtain ⟨q, hq⟩ : ∃ q, q = w1.heap.size := ⟨_, rfl⟩
  have b0 : W2.heap[q]? = some (.cells [Value.int .u64 2, .int .u64 3].toArray 29 (0, 0)) := by rw [hW2]; exact heap_new_at _ _ hq.symm
  have hO2 : Only (fun _ => False) w W2 := by rw [hW2]; exact h1'.out.alloc _
  rw [← hW2, ← hq]
  have b0' := Lib.hid b0
  have hO2' := Lib.hid hO2
  have qa := Lib.hid (fun (W : World) => k_all (heap_new_at W (.cells #[.int .u64 2, .int .u64 3, .int .u64 4] 22) rfl))
  clear hW2 hq b0 hO2 q3
  go_wp2_with (first | (go_at_call 14; with_reducible refine (q1.out _).mono ?_; rintro e w3 ⟨rfl, h3⟩; have h3' := Lib.hid h3; clear h3) | (go_at_call 12; with_reducible refine (q2.out _).mono ?_; rintro e w4 ⟨rfl, h4⟩; have h4' := Lib.hid h4; clear h4) | (go_at_call 15; with_reducible refine (qa.out _).mono ?_; rintro e w5 ⟨rfl, h5⟩; have h5' := Lib.hid (((h3'.out.trans' h4'.out).alloc _).trans' h5); have r0 := row_cell (h5'.out.heap b0'.out (fun h => h)) (i := 0) rfl; have r1 := row_cell (h5'.out.heap b0'.out (fun h => h)) (i := 1) rfl; clear h5) | (go_at_call 18; with_reducible refine (q4.out _).mono ?_; rintro e w6 ⟨rfl, h6⟩; have h6' := Lib.hid h6; clear h6) | (go_at_call 18; with_reducible refine (q5.out _).mono ?_; rintro e w7 ⟨rfl, h7⟩; have h7' := Lib.hid h7; clear h7))
  exact hfin.out _ (((hO2'.out.trans' h5'.out).trans' h6'.out).trans' h7'.out)
end Hyp
end Go.Proofs.Ytkolbaadakhciaa
