/- Package prog's kindOf and numberOf. -/
import Derived.Test.YtbjpnjgkpkfngaaGreatDoorOps
namespace Go.Proofs.YtbjpnjgkpkfngaaGreatDoor
open Go Go.RowKit

def RetKB (v : Int) (b : Bool) (w : World) (e : Ending) (w' : World) : Prop := e = .returned (.tuple #[.int .i64 v, .bool b]) ∧ w = w'
theorem names_ne {i j : Nat} (hi : i < 16) (hj : j < 16) (h : i ≠ j) : wnames.getD i ⟨#[]⟩ ≠ wnames.getD j ⟨#[]⟩ := by
  have key : ∀ i j : Fin 16, i ≠ j → wnames.getD i.1 ⟨#[]⟩ ≠ wnames.getD j.1 ⟨#[]⟩ := by decide
  exact key ⟨i, hi⟩ ⟨j, hj⟩ (fun e => h (Fin.mk.inj_iff.1 e))

set_option maxHeartbeats 800000 in
theorem kindOf_name {w : World} (hw : Words w) (k : Nat) (h1 : 1 ≤ k) (h2 : k ≤ 15) : Calls Tryz.prog 109 #[.string (wnames.getD k ⟨#[]⟩)] w (RetKB k true w) := by
  obtain ⟨s, hs⟩ : ∃ s, s = wnames.getD k ⟨#[]⟩ := ⟨_, rfl⟩
  rw [← hs]
  have hs' := Lib.hid hs
  have hw' := Lib.hid hw
  clear hs hw
  go_enter Tryz.func109, Tryz.ntmps109
  go_wp2
  go_loopw [4] (fun i wr => ∃ j : Nat, 1 ≤ j ∧ j ≤ k ∧ i = .int .i64 j ∧ w = wr) (fun i _ => 16 - (intOf i).toNat)
  case atStart => exact ⟨1, Nat.le_refl _, h1, rfl, rfl⟩
  case round =>
    obtain ⟨j, hj1, hj2, rfl, rfl⟩ := hrel
    have c := (words_at hw'.out j (by omega)).1
    obtain ⟨t, ht⟩ : ∃ t, t = wnames.getD j ⟨#[]⟩ := ⟨_, rfl⟩
    rw [← ht] at c
    have hj15 : (j : Int) ≤ 15 := by omega
    have hj16 : (j : Int) < 16 := by omega
    have hj0 : (0 : Int) ≤ (j : Int) := by omega
    by_cases hjk : j = k
    · obtain rfl : j = k := hjk
      have hts : t = s := by rw [ht, hs'.out]
      subst hts
      clear ht
      go_wp2
      go_ret2
      exact ⟨rfl, rfl⟩
    · have hne : t ≠ s := by rw [ht, hs'.out]; exact names_ne (by omega) (by omega) hjk
      have e1 : (t.toList == s.toList) = false := by
        refine beq_eq_false_iff_ne.2 (fun h => hne ?_)
        rw [ByteArray.toList_eq, ByteArray.toList_eq] at h
        exact Go.WideShapes.bytes_inj h
      have hjl : j < k := by omega
      clear ht hjk
      go_wp2
      go_roundw
      case rel => exact ⟨j + 1, by omega, by omega, by go_num, trivial⟩
      case measure => simp [intOf]; omega

/-- The number that digits tell, and what digits are. -/
def valD (l : List UInt8) : Int := l.foldl (fun n b => 10 * n + ((b.toNat : Int) - 48)) 0
def isDig (b : UInt8) : Prop := 48 ≤ b.toNat ∧ b.toNat ≤ 57
theorem valD_snoc (l : List UInt8) (b : UInt8) : valD (l ++ [b]) = 10 * valD l + ((b.toNat : Int) - 48) := by simp [valD, List.foldl_append]
theorem valD_take (l : List UInt8) (h : ∀ b ∈ l, isDig b) (k : Nat) (hk : k ≤ l.length) : 0 ≤ valD (l.take k) ∧ valD (l.take k) < (10 ^ k : Int) := by
  induction k with
  | zero => simp [valD]
  | succ k ih =>
    have := ih (by omega)
    have hx : l[k]? = some (l[k]'(by omega)) := List.getElem?_eq_getElem _
    have hb := h _ (List.mem_of_getElem? hx)
    unfold isDig at hb
    rw [List.take_add_one, hx]
    simp only [Option.toList]
    rw [valD_snoc, Int.pow_succ]
    omega
theorem valD_small (l : List UInt8) (h : ∀ b ∈ l, isDig b) (k : Nat) (hk : k ≤ l.length) (h9 : k ≤ 9) : 0 ≤ valD (l.take k) ∧ valD (l.take k) < 1000000000 := by
  obtain ⟨h1, h2⟩ := valD_take l h k hk
  have : (10 ^ k : Int) ≤ 10 ^ 9 := by
    have : k = 0 ∨ k = 1 ∨ k = 2 ∨ k = 3 ∨ k = 4 ∨ k = 5 ∨ k = 6 ∨ k = 7 ∨ k = 8 ∨ k = 9 := by omega
    rcases this with rfl | rfl | rfl | rfl | rfl | rfl | rfl | rfl | rfl | rfl <;> decide
  exact ⟨h1, by omega⟩
theorem take_byte (s : ByteArray) (k : Nat) (h : k < s.size) : s.data.toList.take (k + 1) = s.data.toList.take k ++ [s[k]] := by
  rw [List.take_succ_eq_append_getElem (by simpa using h)]
  rfl

end Go.Proofs.YtbjpnjgkpkfngaaGreatDoor
