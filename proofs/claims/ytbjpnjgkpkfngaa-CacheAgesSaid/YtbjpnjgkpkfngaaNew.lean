/- The cache's New. -/
import Derived.Test.YtbjpnjgkpkfngaaAccess
namespace Go.Proofs.Ytbjpnjgkpkfngaa
open Go Go.RowKit

theorem access_any {w : World} {r R M S W : Nat} {G : Nat → List Int} (h : CacheAt w r R M S W G) (b : Nat) (hb : b ≤ 255) : Calls Try.prog 7 #[.pointer (some ⟨r, 0, none⟩), .int .i64 b] w (AccEnd r R M S W G b w) := by
  by_cases hin : (b : Int) ∈ G (b % S)
  · exact access_found h b hb hin
  · exact access_new h b hb hin
theorem access_range (w : World) (p : Option Addr) : Calls Try.prog 7 #[.pointer p, .int .i64 (-1)] w fun e w' => e = .returned (.tuple #[.bool false, .int .i64 5]) ∧ w = w' := by
  have q1 := Lib.hid (isBlock_any (-1) w)
  rw [show isB (-1) = false by decide] at q1
  go_enter Try.func7, Try.ntmps7
  go_wp2_with (go_at_call 12; refine q1.out.mono ?_; rintro e w' ⟨rfl, rfl⟩)
  go_ret2
  exact ⟨rfl, rfl⟩
theorem new_nil (w : World) : Calls Try.prog 6 #[.int .i64 0, .int .i64 1] w fun e w' => e = .returned (.pointer none) ∧ w = w' := by
  go_enter Try.func6, Try.ntmps6
  go_wp2
  go_ret
  exact ⟨rfl, rfl⟩

def NewEnd (S W : Nat) (w : World) (e : Ending) (w' : World) : Prop :=
  ∃ r R M, e = .returned (.pointer (some ⟨r, 0, none⟩)) ∧ w.heap.size ≤ r ∧ w.heap.size ≤ R ∧ w.heap.size ≤ M ∧ CacheAt w' r R M S W (fun _ => []) ∧ Only (fun _ => False) w w'
/-- The rows, the first i of them laid. -/
def fillL (M S W i : Nat) : List Value := (List.range S).map fun k => if k < i then rowV M W k 0 else .slice none 0 0
theorem fillL_next (M S W i : Nat) (hi : i < S) : (fillL M S W i).set i (rowV M W i 0) = fillL M S W (i + 1) := by
  unfold fillL
  apply List.ext_getElem?
  intro k
  by_cases hk : k < S
  · by_cases hki : k = i
    · subst hki
      rw [List.getElem?_set_self (by simpa using hk), List.getElem?_map, List.getElem?_range hk]
      simp
    · rw [List.getElem?_set_ne (fun h => hki h.symm), List.getElem?_map, List.getElem?_map, List.getElem?_range hk]
      simp only [Option.map_some]
      congr 1
      by_cases h1 : k < i
      · rw [if_pos h1, if_pos (by omega)]
      · rw [if_neg h1, if_neg (by omega)]
  · rw [List.getElem?_eq_none (by simp; omega), List.getElem?_eq_none (by simp; omega)]
theorem fillL_zero (M S W : Nat) : fillL M S W 0 = List.replicate S (.slice none 0 0) := by
  unfold fillL
  apply List.ext_getElem?
  intro k
  by_cases hk : k < S
  · rw [List.getElem?_map, List.getElem?_range hk, List.getElem?_replicate, if_pos hk]
    rfl
  · rw [List.getElem?_eq_none (by simp; omega), List.getElem?_eq_none (by simp; omega)]
theorem fillL_all (M S W : Nat) : fillL M S W S = rowsL M S W (fun _ => []) := by
  unfold fillL rowsL
  refine List.map_congr_left (fun k hk => ?_)
  rw [if_pos (List.mem_range.1 hk)]
  rfl

set_option maxRecDepth 100000 in
set_option maxHeartbeats 1000000 in
theorem new_any (w : World) (S W : Nat) (hS : 1 ≤ S ∧ S ≤ 16) (hW : 1 ≤ W ∧ W ≤ 4) : Calls Try.prog 6 #[.int .i64 S, .int .i64 W] w (NewEnd S W w) := by
  obtain ⟨T, hT⟩ : ∃ T, T = S * W := ⟨_, rfl⟩
  have hT64 : T ≤ 64 := by rw [hT]; exact Nat.mul_le_mul hS.2 hW.2
  have hTm : (S : Int) * (W : Int) = (T : Int) := by rw [hT]; simp
  obtain ⟨hS1, hS2⟩ := hS
  obtain ⟨hW1, hW2⟩ := hW
  have hT' := Lib.hid hT
  clear hT
  have mk1 := run_make_list (P := Try.prog) w 34 3 (.int .i64 0) 8 Try.underlying34 (by kernel_rfl) rfl T (by omega) (by omega)
  have mk2 := fun W0 : World => run_make_list (P := Try.prog) W0 37 34 (.slice none 0 0) 24 Try.underlying37 (by kernel_rfl) rfl S (by omega) (by omega)
  go_enter Try.func6, Try.ntmps6
  go_wp2
  clear mk1 mk2
  obtain ⟨M, hM⟩ : ∃ M, M = w.heap.size := ⟨_, rfl⟩
  obtain ⟨R, hR⟩ : ∃ R, R = w.heap.size + 1 := ⟨_, rfl⟩
  have hbM := Lib.hid (show ((w.alloc (.cells (List.replicate T (.int .i64 0)).toArray 3)).alloc (.cells (List.replicate S (.slice none 0 0)).toArray 34)).heap[M]? = some (.cells (List.replicate T (Value.int .i64 0)).toArray 3 (0, 0)) from heap_kept_alloc (heap_new_at w _ hM.symm) _)
  have hbR := Lib.hid (show ((w.alloc (.cells (List.replicate T (.int .i64 0)).toArray 3)).alloc (.cells (List.replicate S (.slice none 0 0)).toArray 34)).heap[R]? = some (.cells (fillL M S W 0).toArray 34 (0, 0)) from by rw [fillL_zero]; exact heap_new_at _ _ (by simp [hR]))
  have hO0 := Lib.hid (show Only (fun _ => False) w ((w.alloc (.cells (List.replicate T (.int .i64 0)).toArray 3)).alloc (.cells (List.replicate S (.slice none 0 0)).toArray 34)) from ((Only.refl _ w).alloc _).alloc _)
  rw [List.toArray_replicate, List.toArray_replicate] at hbM hbR hO0
  rw [← hR, ← hM]
  have hMR := Lib.hid (And.intro hM hR)
  clear hM hR
  generalize World.alloc _ _ = W0 at hbM hbR hO0 ⊢
  go_loopw [31] (fun i wr => ∃ k : Nat, k ≤ S ∧ i = .int .i64 k ∧ Hid (wr.heap[M]? = some (.cells (Array.replicate T (Value.int .i64 0)) 3 (0, 0))) ∧ Hid (wr.heap[R]? = some (.cells (fillL M S W k).toArray 34 (0, 0))) ∧ Hid (Only (fun _ => False) w wr)) (fun i _ => S - (intOf i).toNat)
  case atStart => exact ⟨0, Nat.zero_le _, rfl, hbM, hbR, hO0⟩
  case round =>
    clear hbM hbR hO0
    obtain ⟨k, hk, rfl, hbM, hbR, hO⟩ := hrel
    obtain ⟨ws, hws⟩ : ∃ ws : World, ws = wr := ⟨_, rfl⟩
    subst hws
    by_cases hkS : k < S
    · have hkS' : (k : Int) < (S : Int) := by omega
      obtain ⟨a, ha⟩ : ∃ a, a = k * W := ⟨_, rfl⟩
      have haT : a + W ≤ T := by
        rw [hT'.out, ha]
        have := Nat.mul_le_mul_right W (show k + 1 ≤ S from hkS)
        rw [Nat.succ_mul] at this
        exact this
      have ham : (k : Int) * (W : Int) = (a : Int) := by rw [ha]; simp
      have ha' := Lib.hid ha
      have f0 := row_free hbR.out k
      obtain ⟨u, d0⟩ : ∃ u, ws.cell? ⟨R, k, none⟩ = some u := ⟨_, row_cell hbR.out (List.getElem?_eq_getElem (show k < (fillL M S W k).length by unfold fillL; simpa using hkS))⟩
      have hnx := Lib.hid (fillL_next M S W k hkS)
      have hsame := Lib.hid (row_set hbR.out k (rowV M W k 0))
      unfold rowV at hsame hnx
      rw [← ha] at hsame hnx
      have hne := Lib.hid (show M ≠ R by have := hMR.out; omega)
      clear ha
      go_wp2
      go_roundw
      case rel =>
        refine ⟨k + 1, by omega, by go_num, Lib.hid (heap_kept_set hbM.out (by exact hne.out) _), Lib.hid ?_, Lib.hid ?_⟩
        · rw [← hnx.out]
          exact hsame.out
        · exact hO.out.trans ((Only.refl (fun x => x = R) ws).setCell (p := ⟨R, k, none⟩) (fun _ => rfl) _) (fun x hx e => by have := hMR.out; omega)
      case measure => simp [intOf]; omega
    · obtain rfl : k = S := by omega
      have hall := Lib.hid (fillL_all M k W)
      go_wp2
      go_ret
      refine ⟨ws.heap.size, R, M, rfl, hO.out.size, by have := hMR.out; omega, by have := hMR.out; omega, ⟨⟨hS1, hS2⟩, ⟨hW1, hW2⟩, heap_new_at ws _ rfl, ?_, fun i hi => by simp, List.replicate T (.int .i64 0), ?_, by rw [List.length_replicate, hT'.out], fun i hi j x hx => by simp at hx⟩, hO.out.alloc _⟩
      · rw [← hall.out]
        exact heap_kept_alloc hbR.out _
      · rw [List.toArray_replicate]
        exact heap_kept_alloc hbM.out _
end Go.Proofs.Ytbjpnjgkpkfngaa
