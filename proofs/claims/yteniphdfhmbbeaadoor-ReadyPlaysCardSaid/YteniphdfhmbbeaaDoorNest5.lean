/- Package prog's closures, all kinds in one; what makes them; and the plain check that both sides come to. -/
import Derived.Test.YteniphdfhmbbeaaDoorNest4
namespace Go.Proofs.YteniphdfhmbbeaaDoor
open Go Go.RowKit

theorem nests_any {w : World} {b2 b3 b4 : Nat} {h : Option Nat} {s : NS} (hN : NestAt w b2 b3 b4 h s) (hl : s.ls.length ≤ 100) (hr : -1000 ≤ s.r ∧ s.r ≤ 1000) (hp : -1000000 ≤ s.p ∧ s.p ≤ 1000000) (o : Opn) (hk : ¬ (o.k < 1 ∨ 15 < o.k)) (ha : 0 ≤ o.a ∧ o.a ≤ 5000) :
    Calls Tryd.prog 59 #[o.val, .pointer (some ⟨b3, 0, none⟩), .pointer (some ⟨b2, 0, none⟩), .pointer (some ⟨b4, 0, none⟩)] w (StepEnd w b2 b3 b4 h (stepN s o.k o.a)) := by
  obtain ⟨k, a, b⟩ := o
  rcases kinds hk with e | e | e | e | e | e | e | e | e | e | e | e | e | e | e
  all_goals
    simp only at e ha
    subst e
  · exact nests_1 hN hr hp a b ha
  · exact nests_2 hN hr hp a b ha
  · exact nests_3 hN hr hp a b ha
  · exact nests_4 hN hr hp a b ha
  · exact nests_5 hN hl a b
  · exact nests_6 hN hl a b
  · exact nests_7 hN hr hp a b ha
  · exact nests_8 hN hr hp a b ha
  · exact nests_9 hN hr hp a b ha
  · exact nests_10 hN hr hp a b ha
  · exact nests_11 hN hr hp a b ha
  · exact nests_12 hN hr hp a b ha
  · exact nests_13 hN hr hp a b ha
  · exact nests_14 hN hr hp a b ha
  · exact nests_15 hN hr hp a b ha

/-- Is nothing open or locked? -/
def doneB (s : NS) : Bool := decide (s.r = 0) && decide (s.ls = [])
theorem closed_any {w : World} {b2 b3 b4 : Nat} {h : Option Nat} {s : NS} (hN : NestAt w b2 b3 b4 h s) (hl : s.ls.length ≤ 100) : Calls Tryd.prog 61 #[.pointer (some ⟨b3, 0, none⟩), .pointer (some ⟨b2, 0, none⟩)] w (RetB (doneB s) w) := by
  obtain ⟨v, h2, h3, h4, hW, hd, n23, n24, n34⟩ := hN
  obtain ⟨p0, cap, rfl, hnc, hcm⟩ := hW.form
  obtain ⟨n, hn⟩ : ∃ n, n = s.ls.length := ⟨_, rfl⟩
  obtain ⟨r, hr⟩ : ∃ r, r = s.r := ⟨_, rfl⟩
  have c2 := row_cell h2 (i := 0) rfl
  have c3 := row_cell h3 (i := 0) rfl
  unfold mkI at c3
  rw [← hn] at c2 hl
  rw [← hr] at c3
  have hz : decide (s.ls = []) = decide (n = 0) := by
    rw [hn]
    exact decide_eq_decide.2 ⟨fun h => by rw [h]; rfl, fun h => List.eq_nil_of_length_eq_zero h⟩
  by_cases q : r = 0
  · by_cases q2 : n = 0
    · have hv := Lib.hid (show true = doneB s by unfold doneB; rw [hz, ← hr]; simp [q, q2])
      subst q
      subst q2
      clear h2 h3 h4 hW hd hnc hn hr hz
      go_enter Tryd.func61, Tryd.ntmps61
      go_wp2
      go_ret
      exact ⟨ret_bool hv.out, rfl⟩
    · have hv := Lib.hid (show false = doneB s by unfold doneB; rw [hz, ← hr]; simp [q2])
      have q3 : ((n : Int) == 0) = false := by simpa using q2
      subst q
      clear h2 h3 h4 hW hd hnc hn hr hz q2
      go_enter Tryd.func61, Tryd.ntmps61
      go_wp2
      go_ret
      exact ⟨ret_bool hv.out, rfl⟩
  · have hv := Lib.hid (show false = doneB s by unfold doneB; rw [hz, ← hr]; simp [q])
    have q3 : (r == 0) = false := by simpa using q
    clear h2 h3 h4 hW hd hnc hn hr hz q
    go_enter Tryd.func61, Tryd.ntmps61
    go_wp2
    go_ret
    exact ⟨ret_bool hv.out, rfl⟩

def closV (f b3 b2 b4 : Nat) : Value := if f = 59 then .func (.func 59) #[] #[.pointer (some ⟨b3, 0, none⟩), .pointer (some ⟨b2, 0, none⟩), .pointer (some ⟨b4, 0, none⟩)] else .func (.func 61) #[] #[.pointer (some ⟨b3, 0, none⟩), .pointer (some ⟨b2, 0, none⟩)]
/-- What nesting makes. -/
def NestingEnd (w : World) (e : Ending) (w' : World) : Prop :=
  ∃ b2 b3 b4, e = .returned (.tuple #[.func (.func 59) #[] #[.pointer (some ⟨b3, 0, none⟩), .pointer (some ⟨b2, 0, none⟩), .pointer (some ⟨b4, 0, none⟩)], .func (.func 61) #[] #[.pointer (some ⟨b3, 0, none⟩), .pointer (some ⟨b2, 0, none⟩)]]) ∧
    NestAt w' b2 b3 b4 none ns0 ∧ w.heap.size ≤ b2 ∧ w.heap.size ≤ b3 ∧ w.heap.size ≤ b4 ∧ Only (fun _ => False) w w'
theorem nesting_any (w : World) : Calls Tryd.prog 50 #[] w (NestingEnd w) := by
  have hmf : ∀ (fn : Fn) (first cap : Array Value) (w : World), (Instr.makeFunc fn first cap).run Tryd.prog w = .ok (.func fn first cap) w := fun _ _ _ _ => rfl
  go_enter Tryd.func50, Tryd.ntmps50
  go_wp2
  go_ret2
  refine ⟨w.heap.size, w.heap.size + 1, w.heap.size + 1 + 1, rfl, ⟨.slice none 0 0, heap_kept_alloc (heap_kept_alloc (heap_new_at _ _ rfl) _) _, heap_kept_alloc (heap_new_at _ _ (by simp)) _, heap_new_at _ _ (by simp), Win.nil _ _ _, (fun k hk => by cases hk), by omega, by omega, by omega⟩, by omega, by omega, by omega, (((Only.refl _ w).alloc _).alloc _).alloc _⟩

/-- The plain check. -/
def runZ : List Opn → NS → RoomV → Int
  | [], s, _ => if doneB s = true then 0 else 9
  | o :: l, s, r => if opZ o r = 0 then (match stepN s o.k o.a with
      | none => 9
      | some t => runZ l t r) else opZ o r
def checkZ (l : List Opn) (r : RoomV) : Int := if l.length = 0 then 1 else if 64 < l.length then 4 else runZ l ns0 r

theorem inB_iff {lo hi a : Int} : inB lo hi a = true ↔ lo ≤ a ∧ a ≤ hi := by unfold inB; simp
theorem opZ_zero {o : Opn} {r : RoomV} (hr : r.ok) (h : opZ o r = 0) : ¬ (o.k < 1 ∨ 15 < o.k) ∧ 0 ≤ o.a ∧ o.a ≤ 5000 := by
  unfold opZ at h
  by_cases hk : o.k < 1 ∨ 15 < o.k
  · rw [if_pos hk] at h
    cases h
  · rw [if_neg hk] at h
    refine ⟨hk, ?_⟩
    unfold opV at h
    by_cases hc : inB (loA o.k.toNat) (hiA o.k.toNat r) o.a = true ∧ inB 0 (hiB o.k.toNat) o.b = true
    · have := inB_iff.1 hc.1
      obtain ⟨⟨m1, m2⟩, ⟨g1, g2⟩, ⟨c1, c2⟩, l1, l2⟩ := hr
      rcases kinds hk with e | e | e | e | e | e | e | e | e | e | e | e | e | e | e
      all_goals
        rw [e] at this
        simp [loA, hiA] at this
        omega
    · rw [if_neg hc] at h
      cases h
theorem step_bounds {s t : NS} {k a : Int} (h : stepN s k a = some t) (ha : 0 ≤ a ∧ a ≤ 5000) : (t.r ≤ s.r + 1 ∧ s.r - 1 ≤ t.r) ∧ (t.p ≤ s.p + 5000 ∧ s.p - 5000 ≤ t.p) ∧ t.ls.length ≤ s.ls.length + 1 := by
  unfold stepN at h
  split at h
  · cases h
  · rename_i t' ht'
    split at h
    · cases h
      unfold moveN at ht'
      split at ht'
      · cases ht'; refine ⟨⟨?_, ?_⟩, ⟨?_, ?_⟩, ?_⟩ <;> simp only <;> omega
      split at ht'
      · cases ht'; refine ⟨⟨?_, ?_⟩, ⟨?_, ?_⟩, ?_⟩ <;> simp only <;> omega
      split at ht'
      · split at ht'
        · cases ht'
        · cases ht'; refine ⟨⟨?_, ?_⟩, ⟨?_, ?_⟩, ?_⟩ <;> simp
          all_goals omega
      split at ht'
      · split at ht'
        · cases ht'; refine ⟨⟨?_, ?_⟩, ⟨?_, ?_⟩, ?_⟩ <;> simp
          all_goals omega
        · cases ht'
      split at ht'
      · cases ht'; refine ⟨⟨?_, ?_⟩, ⟨?_, ?_⟩, ?_⟩ <;> simp only <;> omega
      split at ht'
      · cases ht'; refine ⟨⟨?_, ?_⟩, ⟨?_, ?_⟩, ?_⟩ <;> simp only <;> omega
      · cases ht'; refine ⟨⟨?_, ?_⟩, ⟨?_, ?_⟩, ?_⟩ <;> omega
    · cases h
end Go.Proofs.YteniphdfhmbbeaaDoor
