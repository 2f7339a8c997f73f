/- Windows up to a lesser number; who is admitted, by both. -/
import Derived.Test.YtlbinlhaejhobaaGreatDoorRef3
namespace Go.Proofs.YtlbinlhaejhobaaGreatDoor
namespace Adm
open Go Go.RowKit Rca Sct Lin Lck Cst Rld Pre
open Bch (U sA sC sM sA_le sC_le sM_le GrowU Ld LRow LB orU IsWin)

theorem win_less (D : Nat → Nat) {m M : Nat} (h : m ≤ M) : Bch.win D m = if Bch.win D M ≤ m then Bch.win D M else 0 := by
  have a := Bch.win_is D M
  refine (Bch.win_is D m).uniq ?_
  obtain ⟨r, hr⟩ : ∃ r, r = Bch.win D M := ⟨_, rfl⟩
  rw [← hr] at a ⊢
  rcases a with ⟨rfl, a⟩ | ⟨a1, a2, a3, a4⟩
  · rw [if_pos (Nat.zero_le _)]
    exact .inl ⟨rfl, fun x h1 h2 => a x h1 (by omega)⟩
  · by_cases hm : r ≤ m
    · rw [if_pos hm]
      exact .inr ⟨a1, hm, a3, a4⟩
    · rw [if_neg hm]
      exact .inl ⟨rfl, fun x h1 h2 => a4 x h1 (by omega)⟩
theorem ded_small {w : World} {c : ConfV} {d : ConfL} {pl : Tks} (hC : ConfIn w c d pl) (hF : Fin0.Fine c d pl) {i : Nat} (hi : i < c.ta.n) : ofU (dedI pl i) = (dedI pl i).toNat ∧ (dedI pl i).toNat ≤ 1048576 := by
  obtain ⟨t, l, h1, h2, -⟩ := fine_at hC hF hi
  have hn := hF.nums hi h1
  rw [dedI_at h2]
  have := ofU_eq t.de
  rw [show max t.de 0 = t.de by omega, IntKind.wrap_u64] at this
  omega
theorem rok_late {w : World} {c : ConfV} {d : ConfL} {pl : Tks} (hC : ConfIn w c d pl) (hF : Fin0.Fine c d pl) {i : Nat} (hi : i < c.ta.n) : rokI c d pl i = !lateI c d pl i := by
  obtain ⟨h1, h2⟩ := ded_small hC hF hi
  unfold rokI lateI
  rw [h1, win_less _ (show (dedI pl i).toNat ≤ 16777216 by omega)]
  have e : (lineI c d pl i).re = orU (winI c d pl i) := rfl
  have e2 : Bch.win (Bch.dem (dlyI c d pl i) (ldL c pl (prio pl.ts i))) 16777216 = winI c d pl i := rfl
  rw [e, e2]
  obtain ⟨r, hr⟩ : ∃ r, r = winI c d pl i := ⟨_, rfl⟩
  obtain ⟨m, hm⟩ : ∃ m, m = (dedI pl i).toNat := ⟨_, rfl⟩
  rw [← hr, ← hm]
  rw [← hm] at h2
  unfold orU
  by_cases h0 : r = 0
  · subst h0
    simp
    omega
  · rw [if_neg h0]
    by_cases hle : r ≤ m
    · rw [if_pos hle]
      simp [h0, hle]
    · rw [if_neg hle]
      simp
      omega
theorem rad_late {w : World} {c : ConfV} {d : ConfL} {pl : Tks} (hC : ConfIn w c d pl) (hF : Fin0.Fine c d pl) : ∀ k, k ≤ c.ta.n → radB c d pl k = !lateB c d pl k
  | 0, _ => rfl
  | k + 1, h => by
    rw [radB_succ, lateB_succ, rad_late hC hF k (by omega), rok_late hC hF (by omega)]
    simp
/-- What a window up to 3000 says of the program's. -/
theorem win_3000 (c : ConfV) (d : ConfL) (pl : Tks) (i : Nat) : Bch.win (Bch.dem (dlyI c d pl i) (ldL c pl (prio pl.ts i))) 3000 = (if winI c d pl i ≤ 3000 then winI c d pl i else 0) := win_less _ (by omega)
theorem re_3000 (c : ConfV) (d : ConfL) (pl : Tks) (i : Nat) (h : Bch.win (Bch.dem (dlyI c d pl i) (ldL c pl (prio pl.ts i))) 3000 = 0) : 3000 < (lineI c d pl i).re := by
  rw [win_3000] at h
  have e : (lineI c d pl i).re = orU (winI c d pl i) := rfl
  rw [e]
  unfold orU
  split
  · omega
  · split at h <;> omega
theorem re_same (c : ConfV) (d : ConfL) (pl : Tks) (i : Nat) {R : Nat} (h : Bch.win (Bch.dem (dlyI c d pl i) (ldL c pl (prio pl.ts i))) 3000 = R) (h0 : R ≠ 0) : winI c d pl i = R ∧ (lineI c d pl i).re = R ∧ (lineI c d pl i).pr = cntI c pl i R ∧ (lineI c d pl i).ex = sM (cntI c pl i R) (relI c pl i) := by
  rw [win_3000] at h
  have hw : winI c d pl i = R := by split at h <;> omega
  have e : (lineI c d pl i).re = orU (winI c d pl i) := rfl
  refine ⟨hw, ?_, ?_, ?_⟩
  · rw [e, hw]; unfold orU; rw [if_neg h0]
  · show (if winI c d pl i = 0 then 18446744073709551615 else cntI c pl i (winI c d pl i)) = _
    rw [hw, if_neg h0]
  · show (if winI c d pl i = 0 then 18446744073709551615 else sM (cntI c pl i (winI c d pl i)) (relI c pl i)) = _
    rw [hw, if_neg h0]
end Adm
end Go.Proofs.YtlbinlhaejhobaaGreatDoor
