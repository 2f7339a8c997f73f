/- Package prog's closures, all kinds in one; what makes them; and the plain check that both sides come to. -/
import Derived.Test.YteeleelkepjoaaaNest4
namespace Go.Proofs.Yteeleelkepjoaaa
open Go Go.RowKit

/-- Is nothing open or locked? -/
def doneB (s : NS) : Bool := decide (s.r = 0) && decide (s.ls = [])
def closV (f b3 b2 b4 : Nat) : Value := if f = 999 then .func (.func 999) #[] #[.pointer (some ⟨b3, 0, none⟩), .pointer (some ⟨b2, 0, none⟩), .pointer (some ⟨b4, 0, none⟩)] else .func (.func 999) #[] #[.pointer (some ⟨b3, 0, none⟩), .pointer (some ⟨b2, 0, none⟩)]
/-- What nesting makes. -/
def NestingEnd (w : World) (e : Ending) (w' : World) : Prop :=
  ∃ b2 b3 b4, e = .returned (.tuple #[.func (.func 999) #[] #[.pointer (some ⟨b3, 0, none⟩), .pointer (some ⟨b2, 0, none⟩), .pointer (some ⟨b4, 0, none⟩)], .func (.func 999) #[] #[.pointer (some ⟨b3, 0, none⟩), .pointer (some ⟨b2, 0, none⟩)]]) ∧
    NestAt w' b2 b3 b4 none ns0 ∧ w.heap.size ≤ b2 ∧ w.heap.size ≤ b3 ∧ w.heap.size ≤ b4 ∧ Only (fun _ => False) w w'
/-- The plain check. -/
def runZ : List Opn → NS → RoomV → Int
  | [], s, _ => if doneB s = true then 0 else 9
  | o :: l, s, r => if opZ o r = 0 then (match stepN s o.k o.a with
      | none => 9
      | some t => runZ l t r) else opZ o r
def checkZ (l : List Opn) (r : RoomV) : Int := if l.length = 0 then 1 else if 64 < l.length then 4 else runZ l ns0 r

theorem inB_iff {lo hi a : Int} : inB lo hi a = true ↔ lo ≤ a ∧ a ≤ hi := by unfold inB; simp
theorem opZ_zero {o : Opn} {r : RoomV} (hr : r.ok) (h : opZ o r = 0) : ¬ (o.k < 1 ∨ 15 < o.k) ∧ 0 ≤ o.a ∧ o.a ≤ 5000 := by
  unfold opZ at h
  by_cases hk : o.k < 1 ∨ 15 < o.k
  · rw [if_pos hk] at h
    cases h
  · rw [if_neg hk] at h
    refine ⟨hk, ?_⟩
    unfold opV at h
    by_cases hc : inB (loA o.k.toNat) (hiA o.k.toNat r) o.a = true ∧ inB 0 (hiB o.k.toNat) o.b = true
    · have := inB_iff.1 hc.1
      obtain ⟨⟨m1, m2⟩, ⟨g1, g2⟩, ⟨c1, c2⟩, l1, l2⟩ := hr
      rcases kinds hk with e | e | e | e | e | e | e | e | e | e | e | e | e | e | e
      all_goals
        rw [e] at this
        simp [loA, hiA] at this
        omega
    · rw [if_neg hc] at h
      cases h
theorem step_bounds {s t : NS} {k a : Int} (h : stepN s k a = some t) (ha : 0 ≤ a ∧ a ≤ 5000) : (t.r ≤ s.r + 1 ∧ s.r - 1 ≤ t.r) ∧ (t.p ≤ s.p + 5000 ∧ s.p - 5000 ≤ t.p) ∧ t.ls.length ≤ s.ls.length + 1 := by
  unfold stepN at h
  split at h
  · cases h
  · rename_i t' ht'
    split at h
    · cases h
      unfold moveN at ht'
      split at ht'
      · cases ht'; refine ⟨⟨?_, ?_⟩, ⟨?_, ?_⟩, ?_⟩ <;> simp only <;> omega
      split at ht'
      · cases ht'; refine ⟨⟨?_, ?_⟩, ⟨?_, ?_⟩, ?_⟩ <;> simp only <;> omega
      split at ht'
      · split at ht'
        · cases ht'
        · cases ht'; refine ⟨⟨?_, ?_⟩, ⟨?_, ?_⟩, ?_⟩ <;> simp
          all_goals omega
      split at ht'
      · split at ht'
        · cases ht'; refine ⟨⟨?_, ?_⟩, ⟨?_, ?_⟩, ?_⟩ <;> simp
          all_goals omega
        · cases ht'
      split at ht'
      · cases ht'; refine ⟨⟨?_, ?_⟩, ⟨?_, ?_⟩, ?_⟩ <;> simp only <;> omega
      split at ht'
      · cases ht'; refine ⟨⟨?_, ?_⟩, ⟨?_, ?_⟩, ?_⟩ <;> simp only <;> omega
      · cases ht'; refine ⟨⟨?_, ?_⟩, ⟨?_, ?_⟩, ?_⟩ <;> omega
    · cases h
end Go.Proofs.Yteeleelkepjoaaa
