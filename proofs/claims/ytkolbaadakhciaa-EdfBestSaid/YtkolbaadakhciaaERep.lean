/- edf: a number over and over (slices.Repeat). -/
import Derived.Test.YtkolbaadakhciaaELate
import Derived.Test.YtkolbaadakhciaaBcSat
namespace Go.Proofs.Ytkolbaadakhciaa
namespace Edf
open Go Go.RowKit
open Bch (U mul64_any)

theorem bmul_any (x y : Nat) (hx : x < 18446744073709551616) (hy : y < 18446744073709551616) (w : World) :
    Calls Try.prog 47 #[U x, U y] w fun e w' => e = .returned (.tuple #[U (x * y / 18446744073709551616), U (x * y % 18446744073709551616)]) ∧ w' = w := by
  have q := Lib.hid (mul64_any x y hx hy w)
  obtain ⟨a, ha⟩ : ∃ a, a = x * y / 18446744073709551616 := ⟨_, rfl⟩
  obtain ⟨b, hb⟩ : ∃ a, a = x * y % 18446744073709551616 := ⟨_, rfl⟩
  rw [← ha, ← hb] at q ⊢
  clear ha hb
  go_enter Try.func47, Try.ntmps47
  go_wp2_with (go_at_call 31; refine q.out.mono ?_; rintro e w9 ⟨rfl, hw⟩; subst hw)
  go_ret2
  exact ⟨rfl, rfl⟩

def reps (v : Int) (n t : Nat) : List Value := List.replicate n (.int .i64 v) ++ List.replicate (t - n) (.int .i64 0)
theorem reps_len {v : Int} {n t : Nat} (h : n ≤ t) : (reps v n t).length = t := by unfold reps; rw [List.length_append, List.length_replicate, List.length_replicate]; omega
theorem reps_splice {v : Int} {n m t : Nat} (h : n + m ≤ t) : splice (reps v n t) n (List.replicate m (.int .i64 v)) = reps v (n + m) t := by
  unfold splice reps
  rw [List.take_left' (by simp), List.length_replicate, List.drop_append, List.drop_eq_nil_of_le (by simp)]
  simp only [List.length_replicate, List.nil_append, List.drop_replicate]
  rw [← List.append_assoc, List.replicate_append_replicate]
  congr 2
  try omega

set_option maxRecDepth 100000 in
set_option maxHeartbeats 4000000 in
theorem rep_any {w : World} {g off c t : Nat} {v : Int} (hc : w.cell? ⟨g, off, none⟩ = some (.int .i64 v)) (ht : t ≤ 4096) :
    Calls Try.prog 38 #[.slice (some ⟨g, off, none⟩) 1 c, .int .i64 (t : Int)] w fun e w' => ∃ X, e = .returned (.slice (some ⟨X, 0, none⟩) t t) ∧ w.heap.size ≤ X ∧ w'.heap[X]? = some (.cells (List.replicate t (Value.int .i64 v)).toArray 3 (0, 0)) ∧ Only (fun _ => False) w w' := by
  obtain ⟨Z, hZ⟩ : ∃ Z : Ending → World → Prop, Z = fun e w' => ∃ X, e = .returned (.slice (some ⟨X, 0, none⟩) t t) ∧ w.heap.size ≤ X ∧ w'.heap[X]? = some (.cells (List.replicate t (Value.int .i64 v)).toArray 3 (0, 0)) ∧ Only (fun _ => False) w w' := ⟨_, rfl⟩
  rw [← hZ]
  have hZ' := Lib.hid hZ
  have hmk := fun W => run_make_list (P := Try.prog) W 44 3 (.int .i64 0) 8 Try.underlying44 info3 rfl t (by omega) (by omega)
  obtain ⟨W1, hW1⟩ : ∃ W1, W1 = w.alloc (.cells (Array.replicate t (Value.int .i64 0)) 3) := ⟨_, rfl⟩
  obtain ⟨X, hX⟩ : ∃ X, X = w.heap.size := ⟨_, rfl⟩
  have b0 : W1.heap[X]? = some (.cells (reps v 0 t).toArray 3 (0, 0)) := by
    rw [hW1]
    refine (heap_new_at _ _ hX.symm).trans ?_
    rw [← List.toArray_replicate]
    simp [reps]
  have hO1 : Only (fun _ => False) w W1 := by rw [hW1]; exact (Only.refl _ w).alloc _
  have c1 := hO1.cell hc (fun h => h)
  obtain ⟨m, hm⟩ : ∃ m, m = min 1 t := ⟨_, rfl⟩
  obtain ⟨W2, hcp, hB2, hO2⟩ := run_copy_only (P := Try.prog) W1 44 44 3 3 Try.underlying44 (by kernel_rfl) (some ⟨X, 0, none⟩) (some ⟨g, off, none⟩) t t 1 c X 0 (reps v 0 t) 3 b0 (List.replicate m (.int .i64 v)) (by rw [List.length_replicate, hm]) (fun _ => ⟨rfl, _, rfl, fun j u hu => by
    rw [List.getElem?_replicate] at hu
    split at hu
    · cases hu
      have : j = 0 := by omega
      subst this
      rw [Addr.add_lit, Nat.add_zero]
      exact c1
    · cases hu⟩) (by rw [reps_len (Nat.zero_le _)]; simp only [List.length_replicate]; omega) (by intro u hu; rw [List.eq_of_mem_replicate hu]; rfl)
  rw [reps_splice (by omega), Nat.zero_add] at hB2
  have hOX : ∀ W, Only (fun k => k = X) W2 W → Only (fun _ => False) w W := fun W ho => hO1.trans (hO2.trans' ho) (fun k hk e => by omega)
  have q := Lib.hid (bmul_any 1 t (by omega) (by omega))
  rw [Nat.one_mul, Nat.div_eq_of_lt (show t < 18446744073709551616 by omega), Nat.mod_eq_of_lt (show t < 18446744073709551616 by omega)] at q
  rw [List.length_replicate] at hcp
  have hOX' := Lib.hid hOX
  have hB2' := Lib.hid hB2
  have hm' := Lib.hid hm
  have hX' := Lib.hid hX
  have hW1' := Lib.hid hW1
  have ht0 : ¬ (t : Int) < 0 := by omega
  have ht1 : ¬ (9223372036854775807 : Int) < (t : Int) := by omega
  have hm9 : m ≤ t := by omega
  clear hZ hW1 hX b0 hO1 c1 hO2 hOX hB2 hm hc
  go_enter Try.func38, Try.ntmps38
  go_upto_region 7 with (go_at_call 47; refine (q.out _).mono ?_; rintro e w9 ⟨rfl, hw⟩; subst hw)
  rw [← hX'.out]
  rw [← hW1'.out]
  have hgo : goInt (m : Int) = .int .i64 (m : Int) := rfl
  rw [hgo] at hcp
  clear hmk
  go_wp2
  go_loopw [8] (fun u wr => ∃ n : Nat, u = .int .i64 (n : Int) ∧ n ≤ t ∧ (n = 0 → t = 0) ∧ Hid (wr.heap[X]? = some (.cells (reps v n t).toArray 3 (0, 0))) ∧ Hid (Only (fun k => k = X) W2 wr)) (fun u _ => t - (intOf u).toNat)
  case atStart => exact ⟨m, rfl, hm9, by have := hm'.out; omega, hB2', Only.refl _ _⟩
  case round =>
    obtain ⟨n, rfl, hnt, hn0, hB, hO⟩ := hrel
    by_cases hlt : n < t
    · have hlt' : (n : Int) < (t : Int) := by omega
      have hpos : 0 < n := by omega
      obtain ⟨k, hk⟩ : ∃ k, k = min n (t - n) := ⟨_, rfl⟩
      have hBd : (wr.drew).heap[X]? = some (.cells (reps v n t).toArray 3 (0, 0)) := hB.out
      obtain ⟨W3, hcp2, hB3, hO3⟩ := run_copy_only (P := Try.prog) wr.drew 44 44 3 3 Try.underlying44 (by kernel_rfl) (some ⟨X, n, none⟩) (some ⟨X, 0, none⟩) (t - n) (t - n) n t X n (reps v n t) 3 hBd (List.replicate k (.int .i64 v)) (by rw [List.length_replicate, hk]) (fun _ => ⟨rfl, _, rfl, fun j u hu => by
        rw [List.getElem?_replicate] at hu
        split at hu
        · cases hu
          rw [Addr.add_lit, Nat.zero_add]
          refine row_cell hBd ?_
          unfold reps
          rw [List.getElem?_append_left (by simp; omega), List.getElem?_replicate, if_pos (by omega)]
        · cases hu⟩) (by rw [reps_len hnt]; simp only [List.length_replicate]; omega) (by intro u hu; rw [List.eq_of_mem_replicate hu]; rfl)
      rw [reps_splice (by omega)] at hB3
      rw [List.length_replicate, show goInt (k : Int) = .int .i64 (k : Int) from rfl] at hcp2
      have hB3' := Lib.hid hB3
      have hO3' := Lib.hid (hO.out.drew.trans' hO3)
      have hk' := Lib.hid hk
      have hcn : ¬ t = n := by omega
      have hk9 : n + k ≤ t := by omega
      clear hB3 hO3 hk hBd hcp
      go_upto_region 9 with fail
      go_region
      go_wp2_with fail
      go_roundw
      case rel => exact ⟨n + k, by go_num, hk9, by omega, hB3', hO3'⟩
      case measure => have := hk'.out; simp [intOf]; omega
    · obtain rfl : n = t := by omega
      have hfin := Lib.hid (show Z (.returned (.slice (some ⟨X, 0, none⟩) n n)) wr from by
        rw [hZ'.out]
        have h1 := hB.out
        unfold reps at h1
        rw [Nat.sub_self, List.replicate_zero, List.append_nil] at h1
        exact ⟨X, rfl, by rw [hX'.out]; exact Nat.le_refl _, h1, hOX'.out wr hO.out⟩)
      go_wp2
      exact hfin.out
end Edf
end Go.Proofs.Ytkolbaadakhciaa
