/- The releases that have one of their task ahead: what the document tells of them, and the program's iterator. -/
import Derived.Test.YthippdgmbfaijaaMon2
import Derived.Test.YthippdgmbfaijaaIter
import Derived.Maps.Own
import Derived.Maps.OwnSet
import Derived.Maps.Views
import Derived.Maps.OwnIn
namespace Go.Proofs.Ythippdgmbfaijaa
open Go Go.RowKit

/-- When the task's last release of the first k records came. -/
def lastAt (l : List RecV) (t : Int) : Nat → Option Int
  | 0 => none
  | k + 1 => match l[k]? with
    | some r => if isRel r = true ∧ r.t = t then some (cl r.at_) else lastAt l t k
    | none => lastAt l t k
theorem lastAt_zero (l : List RecV) (t : Int) : lastAt l t 0 = none := rfl
theorem lastAt_skip {l : List RecV} {k : Nat} {r : RecV} (t : Int) (h : l[k]? = some r) (hn : ¬ (isRel r = true ∧ r.t = t)) : lastAt l t (k + 1) = lastAt l t k := by
  rw [lastAt, h]
  exact if_neg hn
theorem lastAt_hit {l : List RecV} {k : Nat} {r : RecV} {t : Int} (h : l[k]? = some r) (hn : isRel r = true ∧ r.t = t) : lastAt l t (k + 1) = some (cl r.at_) := by
  rw [lastAt, h]
  exact if_pos hn
theorem lastAt_bd (l : List RecV) (t : Int) : ∀ (k : Nat) {z : Int}, lastAt l t k = some z → -1099511627776 ≤ z ∧ z ≤ 1099511627776
  | 0, z, h => by cases h
  | k + 1, z, h => by
    unfold lastAt at h
    split at h
    · split at h
      · cases h
        exact cl_bd _
      · exact lastAt_bd l t k h
    · exact lastAt_bd l t k h
/-- The k-th record, if it is such a release, with how far it is behind. -/
def folAt (l : List RecV) (k : Nat) : Option (RecV × Int) :=
  match l[k]? with
  | some r => if isRel r = true then (lastAt l r.t k).map (fun z => (r, cl r.at_ - z)) else none
  | none => none
def folU (l : List RecV) (k : Nat) : List (RecV × Int) := (List.range k).filterMap (folAt l)
theorem folU_zero (l : List RecV) : folU l 0 = [] := rfl
theorem folU_succ (l : List RecV) (k : Nat) : folU l (k + 1) = folU l k ++ (folAt l k).toList := by
  unfold folU
  rw [List.range_succ, List.filterMap_append]
  congr 1
def folL (l : List RecV) : List (RecV × Int) := folU l l.length
theorem folU_mono (l : List RecV) {k n : Nat} (h : k ≤ n) : folU l k <+: folU l n := by
  induction n with
  | zero =>
    obtain rfl : k = 0 := by omega
    exact List.prefix_rfl
  | succ n ih =>
    by_cases hk : k = n + 1
    · rw [hk]
      exact List.prefix_rfl
    · exact (ih (by omega)).trans (by rw [folU_succ]; exact List.prefix_append _ _)
theorem folU_pre (l : List RecV) {k : Nat} (h : k ≤ l.length) : folU l k <+: folL l := folU_mono l h

def encF (x : RecV × Int) : Array Value := #[x.1.val, .int .i64 x.2]
end Go.Proofs.Ythippdgmbfaijaa
