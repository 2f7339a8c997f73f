/- Package prog's numberOf. -/
import Derived.Test.YtbjpnjgkpkfngaaGreatDoorKind
namespace Go.Proofs.YtbjpnjgkpkfngaaGreatDoor
open Go Go.RowKit

set_option maxHeartbeats 1000000 in
/-- A number is read of its digits, one at least, nine at most, the first one no needless nought. -/
theorem numberOf_any (s : ByteArray) (w : World) (h1 : 1 ≤ s.size) (h9 : s.size ≤ 9) (hd : ∀ b ∈ s.data.toList, isDig b) (hz : s.size = 1 ∨ ∀ h : 0 < s.size, (s[0].toNat : Int) ≠ 48) : Calls Tryz.prog 110 #[.string s] w (RetKB (valD s.data.toList) true w) := by
  have hd' := Lib.hid hd
  have hsz : s.data.toList.length = s.size := by rw [Array.length_toList]; rfl
  have hsz' := Lib.hid hsz
  have he : (s.toList == ([] : List UInt8)) = false := by
    refine beq_eq_false_iff_ne.2 (fun h => ?_)
    rw [ByteArray.toList_eq] at h
    rw [h] at hsz
    simp only [List.length_nil] at hsz
    omega
  have hn9 : ¬ (9 : Int) < (s.size : Int) := by omega
  have h0s : 0 < s.size := by omega
  have hlast : ∀ k (hk : k < s.size), isDig s[k] := fun k hk => hd _ (by
    have : s[k] = s.data.toList[k]'(by rw [hsz]; exact hk) := rfl
    rw [this]
    exact List.getElem_mem _)
  have hlast' := Lib.hid hlast
  have hcase := Lib.hid hz
  clear hd hz hsz hlast
  go_enter Tryz.func110, Tryz.ntmps110
  go_wp2
  all_goals try
    · exfalso
      rcases hcase.out with h | h
      · omega
      · exact h h0s (by assumption)
  all_goals
    go_loop [4, 25] (fun n i => ∃ k : Nat, k ≤ s.size ∧ i = .int .i64 k ∧ n = .int .i64 (valD (s.data.toList.take k))) (fun _ i => s.size - (intOf i).toNat)
    case atStart => exact ⟨0, Nat.zero_le _, rfl, rfl⟩
    case round =>
      obtain ⟨k, hk, rfl, rfl⟩ := hrel
      obtain ⟨v1, v2⟩ := valD_small s.data.toList hd'.out k (by rw [hsz'.out]; exact hk) (by omega)
      by_cases hlt : k < s.size
      · have hdk := hlast'.out k hlt
        unfold isDig at hdk
        obtain ⟨d1, d2⟩ := hdk
        have hts := Lib.hid (take_byte s k hlt)
        obtain ⟨v, hv⟩ : ∃ v, v = valD (s.data.toList.take k) := ⟨_, rfl⟩
        rw [← hv] at v1 v2 ⊢
        have hv' := Lib.hid hv
        have q1 : ¬ (s[k].toNat : Int) < 48 := by omega
        have q2 : ¬ (57 : Int) < (s[k].toNat : Int) := by omega
        clear hv
        go_wp2
        go_round
        case rel => exact ⟨k + 1, by omega, by go_num, by rw [hts.out, valD_snoc, ← hv'.out]⟩
        case measure => simp [intOf]; omega
      · have hall := Lib.hid (show s.data.toList.take k = s.data.toList from List.take_of_length_le (by rw [hsz'.out]; omega))
        go_wp2
        go_ret2
        exact ⟨by rw [hall.out]; rfl, rfl⟩
end Go.Proofs.YtbjpnjgkpkfngaaGreatDoor
