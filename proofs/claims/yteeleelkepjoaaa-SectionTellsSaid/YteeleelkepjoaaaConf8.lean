/- The check of a configuration. -/
import Derived.Test.YteeleelkepjoaaaConf7
namespace Go.Proofs.Yteeleelkepjoaaa
open Go Go.RowKit

def firstNZ (f : Nat → Int) : Nat → Int
  | 0 => 0
  | n + 1 => if firstNZ f n ≠ 0 then firstNZ f n else f n
theorem firstNZ_zero {f : Nat → Int} : ∀ {n : Nat}, (∀ j, j < n → f j = 0) → firstNZ f n = 0
  | 0, _ => rfl
  | n + 1, h => by
    unfold firstNZ
    rw [firstNZ_zero (fun j hj => h j (by omega)), if_neg (by simp)]
    exact h n (by omega)
theorem firstNZ_at {f : Nat → Int} {k : Nat} (h : ∀ j, j < k → f j = 0) (hk : f k ≠ 0) : ∀ {n : Nat}, k < n → firstNZ f n = f k
  | 0, hn => by omega
  | n + 1, hn => by
    unfold firstNZ
    by_cases hkn : k = n
    · subst hkn
      rw [firstNZ_zero h, if_neg (by simp)]
    · rw [firstNZ_at h hk (n := n) (by omega), if_pos hk]

abbrev Tks := List (TaskV × List Opn)
def Tks.ts (pl : Tks) : List TaskV := pl.map Prod.fst
def taskAt (r : RoomV) (ce : List Int) (pl : Tks) (i : Nat) : Int := match pl[i]? with
  | some (t, l) => taskZ r ce pl.ts i t l
  | none => 0
def confZ (c : ConfV) (d : ConfL) (pl : Tks) : Int :=
  if machB c.s c.wy c.h c.mi = false then 5 else if manyB c = true then 4 else if c.ta.n = 0 ∨ c.g < 0 then 1 else if objB c d = false then 5
  else firstNZ (taskAt c.room d.ce pl) c.ta.n
/-- The programs of tasks. -/
structure ProgsAt (w : World) (pl : Tks) : Prop where
  row : ∀ (i : Nat) t l, pl[i]? = some (t, l) → OpnRow w t.o.A l ∧ l.length = t.o.n ∧ t.o.n ≤ 1000000 ∧ t.o.n ≤ t.o.cap
theorem ProgsAt.new {w w' : World} {pl : Tks} (h : ProgsAt w pl) (ho : Only (fun _ => False) w w') : ProgsAt w' pl := ⟨fun i t l ht => ⟨(h.row i t l ht).1.new ho, (h.row i t l ht).2⟩⟩
/-- A configuration, all of it. -/
structure ConfAt (w : World) (c : ConfV) (d : ConfL) (pl : Tks) : Prop where
  o : ObjsAt w c d
  t : TasksAt w c.ta pl.ts
  p : ProgsAt w pl
theorem ConfAt.new {w w' : World} {c : ConfV} {d : ConfL} {pl : Tks} (h : ConfAt w c d pl) (ho : Only (fun _ => False) w w') : ConfAt w' c d pl := ⟨h.o.new ho, h.t.new ho, h.p.new ho⟩
theorem room_ok {c : ConfV} (h1 : manyB c = false) (h2 : ¬ c.g < 0) : c.room.ok := by
  unfold manyB at h1
  simp only [decide_eq_false_iff_not] at h1
  unfold RoomV.ok ConfV.room
  simp only
  omega
theorem taskAt_some {r : RoomV} {ce : List Int} {pl : Tks} {i : Nat} {t : TaskV} {l : List Opn} (h : pl[i]? = some (t, l)) : taskAt r ce pl i = taskZ r ce pl.ts i t l := by unfold taskAt; rw [h]
theorem ts_some {pl : Tks} {i : Nat} {t : TaskV} {l : List Opn} (h : pl[i]? = some (t, l)) : pl.ts[i]? = some t := by unfold Tks.ts; rw [List.getElem?_map, h]; rfl

end Go.Proofs.Yteeleelkepjoaaa
