/- What a configuration that may be has, all of it. -/
import Derived.Test.YtdoimkmhincmmaaPC
namespace Go.Proofs.Ytdoimkmhincmmaa
namespace Fin0
open Go Go.RowKit

structure Fine (c : ConfV) (d : ConfL) (pl : Tks) : Prop where
  mach : machB c.s c.wy c.h c.mi = true
  many : manyB c = false
  n0 : 0 < c.ta.n
  g0 : 0 ≤ c.g
  obj : objB c d = true
  task : ∀ (i : Nat) t l, i < c.ta.n → pl[i]? = some (t, l) → t.okB = true ∧ checkZ l c.room = 0 ∧ l.any (lowB d.ce t.p) = false ∧ (pl.ts.take i).any (fun u => decide (u.p = t.p)) = false
theorem firstNZ_all {f : Nat → Int} {n : Nat} (h : firstNZ f n = 0) : ∀ j, j < n → f j = 0 := by
  induction n with
  | zero => intro j hj; omega
  | succ n ih =>
    unfold firstNZ at h
    by_cases h0 : firstNZ f n ≠ 0
    · rw [if_pos h0] at h
      exact absurd h h0
    · rw [if_neg h0] at h
      intro j hj
      by_cases hjn : j = n
      · subst hjn; exact h
      · exact ih (Classical.byContradiction h0) j (by omega)
theorem of_zero {c : ConfV} {d : ConfL} {pl : Tks} (h : confZ c d pl = 0) : Fine c d pl := by
  unfold confZ at h
  split at h
  · simp at h
  rename_i h1
  split at h
  · simp at h
  rename_i h2
  split at h
  · simp at h
  rename_i h3
  split at h
  · simp at h
  rename_i h4
  refine ⟨by simpa using h1, by simpa using h2, by omega, by omega, by simpa using h4, fun i t l hi ht => ?_⟩
  have hz := firstNZ_all h i hi
  rw [taskAt_some ht] at hz
  unfold taskZ at hz
  split at hz
  · simp at hz
  rename_i h5
  split at hz
  · rename_i h6; exact absurd hz h6
  rename_i h6
  split at hz
  · simp at hz
  rename_i h7
  split at hz
  · simp at hz
  rename_i h8
  exact ⟨by simpa using h5, Classical.byContradiction h6, by simpa using h7, by simpa using h8⟩
theorem inB_in {lo hi z : Int} (h : inB lo hi z = true) : lo ≤ z ∧ z ≤ hi := by unfold inB at h; simpa using h
theorem Fine.machine {c : ConfV} {d : ConfL} {pl : Tks} (h : Fine c d pl) : (1 ≤ c.s ∧ c.s ≤ 16) ∧ (1 ≤ c.wy ∧ c.wy ≤ 4) ∧ (1 ≤ c.h ∧ c.h ≤ 100) ∧ (c.h ≤ c.mi ∧ c.mi ≤ 100) := by
  have := h.mach
  unfold machB at this
  simp only [Bool.and_eq_true] at this
  exact ⟨inB_in this.1.1.1, inB_in this.1.1.2, inB_in this.1.2, inB_in this.2⟩
theorem Fine.counts {c : ConfV} {d : ConfL} {pl : Tks} (h : Fine c d pl) : c.mb.n ≤ 4 ∧ c.g ≤ 4 ∧ c.cn.n ≤ 4 ∧ c.ce.n ≤ 4 ∧ c.ta.n ≤ 8 ∧ c.li.n ≤ 8 := by
  have := h.many
  unfold manyB at this
  simp at this
  omega
theorem Fine.nums {c : ConfV} {d : ConfL} {pl : Tks} (h : Fine c d pl) {i : Nat} {t : TaskV} {l : List Opn} (hi : i < c.ta.n) (ht : pl[i]? = some (t, l)) :
    (0 ≤ t.p ∧ t.p ≤ 63) ∧ (t.p ≤ t.th ∧ t.th ≤ 63) ∧ (1 ≤ t.pe ∧ t.pe ≤ 1048576) ∧ (1 ≤ t.de ∧ t.de ≤ t.pe) ∧ (0 ≤ t.fr ∧ t.fr ≤ 4096) ∧ (0 ≤ t.fl ∧ t.fl ≤ 1048576) := by
  have := (h.task i t l hi ht).1
  unfold TaskV.okB taskB at this
  simp only [Bool.and_eq_true] at this
  exact ⟨inB_in this.1.1.1.1.1, inB_in this.1.1.1.1.2, inB_in this.1.1.1.2, inB_in this.1.1.2, inB_in this.1.2, inB_in this.2⟩
theorem Fine.prog {c : ConfV} {d : ConfL} {pl : Tks} (h : Fine c d pl) {i : Nat} {t : TaskV} {l : List Opn} (hi : i < c.ta.n) (ht : pl[i]? = some (t, l)) : 0 < l.length ∧ l.length ≤ 64 ∧ ∀ o ∈ l, opZ o c.room = 0 := by
  have hz := (h.task i t l hi ht).2.1
  refine ⟨?_, ?_, checkZ_ops hz⟩
  · unfold checkZ at hz
    split at hz
    · simp at hz
    · omega
  · unfold checkZ at hz
    split at hz
    · simp at hz
    · split at hz
      · simp at hz
      · omega
theorem acc_in {o : Opn} {r : RoomV} (h : opZ o r = 0) (hk : o.k = 2) : 0 ≤ o.a ∧ o.a ≤ 255 := by
  obtain ⟨k, a, b⟩ := o
  simp only at hk
  subst hk
  unfold opZ at h
  simp [opV, loA, hiA, hiB, inB] at h
  simp only
  omega
end Fin0
end Go.Proofs.Ytdoimkmhincmmaa
