/- One task's check. -/
import Derived.Test.YteeleelkepjoaaaConf6
namespace Go.Proofs.Yteeleelkepjoaaa
open Go Go.RowKit

def TaskV.okB (t : TaskV) : Bool := taskB t.p t.th t.pe t.de t.fr t.fl
def taskZ (r : RoomV) (ce : List Int) (ts : List TaskV) (i : Nat) (t : TaskV) (l : List Opn) : Int :=
  if t.okB = false then 5 else if checkZ l r ≠ 0 then checkZ l r else if l.any (lowB ce t.p) = true then 9
  else if (ts.take i).any (fun u => decide (u.p = t.p)) = true then 10 else 0
theorem runZ_ops {r : RoomV} : ∀ {l : List Opn} {s : NS}, runZ l s r = 0 → ∀ o ∈ l, opZ o r = 0
  | [], _, _, o, h => by simp at h
  | x :: l, s, hz, o, h => by
    unfold runZ at hz
    by_cases hx : opZ x r = 0
    · rw [if_pos hx] at hz
      rcases List.mem_cons.1 h with rfl | h
      · exact hx
      · cases hs : stepN s x.k x.a with
        | none => rw [hs] at hz; simp at hz
        | some t => rw [hs] at hz; exact runZ_ops hz o h
    · rw [if_neg hx] at hz
      exact absurd hz hx
theorem checkZ_ops {l : List Opn} {r : RoomV} (h : checkZ l r = 0) : ∀ o ∈ l, opZ o r = 0 := by
  unfold checkZ at h
  by_cases h0 : l.length = 0
  · rw [if_pos h0] at h; simp at h
  · rw [if_neg h0] at h
    by_cases h1 : 64 < l.length
    · rw [if_pos h1] at h; simp at h
    · rw [if_neg h1] at h
      exact runZ_ops h
theorem lock_in {o : Opn} {r : RoomV} (h : opZ o r = 0) (hk : o.k = 5) (hl : 0 ≤ r.l) : 0 ≤ o.a ∧ o.a < r.l := by
  obtain ⟨k, a, b⟩ := o
  simp only at hk
  subst hk
  unfold opZ at h
  simp [opV, loA, hiA, hiB, inB] at h
  simp only
  omega

end Go.Proofs.Yteeleelkepjoaaa
