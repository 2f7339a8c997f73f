/- Set, Clear, Value, Test. -/
import Derived.Test.YtbmpmmfomcnchaaFlags
namespace Go.Proofs.Ytbmpmmfomcnchaa
open Go Go.RowKit

theorem hmf (fn : Fn) (first cap : Array Value) (w : World) : (Instr.makeFunc fn first cap).run Try.prog w = .ok (.func fn first cap) w := rfl
/-- No such group. -/
def NoEnd (w : World) (e : Ending) (w' : World) : Prop := e = .returned (.tuple #[.int .i64 0, .int .i64 6]) ∧ Only (fun _ => False) w w'
def NoTest (w : World) (e : Ending) (w' : World) : Prop := e = .returned (.tuple #[.bool false, .int .i64 6]) ∧ Only (fun _ => False) w w'
/-- What a test answers. -/
def TestEnd (w : World) (b g n : Nat) (v : Nat → BitVec 8) (r : Bool) (e : Ending) (w' : World) : Prop := e = .returned (.tuple #[.bool r, .int .i64 0]) ∧ GroupsAt w' b g n v ∧ Only (fun k => k = g) w w'

theorem set_nil (i z : Int) (w : World) : Calls Try.prog 9 #[.pointer none, .int .i64 i, .int .i64 z] w (NoEnd w) := by
  have hmf' := hmf
  go_enter Try.func9, Try.ntmps9
  go_wp2_with fail
  refine (change_nil _ _ _).mono ?_
  rintro e w' ⟨rfl, hw⟩
  subst hw
  go_wp2
  go_ret2
  exact ⟨rfl, (Only.refl _ w).alloc _⟩
theorem set_no {w : World} {b g n : Nat} {v : Nat → BitVec 8} (h : GroupsAt w b g n v) {i : Int} (hi : i < 0 ∨ n ≤ i) (z : Int) : Calls Try.prog 9 #[.pointer (some ⟨b, 0, none⟩), .int .i64 i, .int .i64 z] w (NoEnd w) := by
  have hmf' := hmf
  have hc := Lib.hid (fun F => change_no (h.new ((Only.refl _ w).alloc (.cells #[.int .i64 z] 3))).cell F hi)
  clear h hi
  go_enter Try.func9, Try.ntmps9
  go_wp2_with fail
  refine (hc.out _).mono ?_
  rintro e w' ⟨rfl, hw⟩
  subst hw
  go_wp2
  go_ret2
  exact ⟨rfl, (Only.refl _ w).alloc _⟩
theorem set_yes {w : World} {b g n : Nat} {v : Nat → BitVec 8} (h : GroupsAt w b g n v) {i : Nat} (hi : i < n) (z : Int) : Calls Try.prog 9 #[.pointer (some ⟨b, 0, none⟩), .int .i64 i, .int .i64 z] w (ChangeEnd w b g n v i (v i ||| low z)) := by
  have hmf' := hmf
  obtain ⟨X, hX⟩ : ∃ X, X = w.heap.size := ⟨_, rfl⟩
  have hc := Lib.hid (change_set (h.new ((Only.refl _ w).alloc (.cells #[.int .i64 z] 3))) hi (X := X) (z := z) (row_cell (L := [.int .i64 z]) (heap_new_at w _ hX.symm) rfl))
  clear h hi
  go_enter Try.func9, Try.ntmps9
  go_wp2_with fail
  rw [← hX]
  refine hc.out.mono ?_
  rintro e w' ⟨rfl, h1, h2⟩
  have h1' := Lib.hid h1
  have h2' := Lib.hid h2
  clear h1 h2
  go_wp2
  go_ret2
  exact ⟨rfl, h1'.out, (((Only.refl (fun k => k = g) w).alloc _).trans' h2'.out)⟩

theorem clear_nil (i z : Int) (w : World) : Calls Try.prog 10 #[.pointer none, .int .i64 i, .int .i64 z] w (NoEnd w) := by
  have hmf' := hmf
  go_enter Try.func10, Try.ntmps10
  go_wp2_with fail
  refine (change_nil _ _ _).mono ?_
  rintro e w' ⟨rfl, hw⟩
  subst hw
  go_wp2
  go_ret2
  exact ⟨rfl, (Only.refl _ w).alloc _⟩
theorem clear_no {w : World} {b g n : Nat} {v : Nat → BitVec 8} (h : GroupsAt w b g n v) {i : Int} (hi : i < 0 ∨ n ≤ i) (z : Int) : Calls Try.prog 10 #[.pointer (some ⟨b, 0, none⟩), .int .i64 i, .int .i64 z] w (NoEnd w) := by
  have hmf' := hmf
  have hc := Lib.hid (fun F => change_no (h.new ((Only.refl _ w).alloc (.cells #[.int .i64 z] 3))).cell F hi)
  clear h hi
  go_enter Try.func10, Try.ntmps10
  go_wp2_with fail
  refine (hc.out _).mono ?_
  rintro e w' ⟨rfl, hw⟩
  subst hw
  go_wp2
  go_ret2
  exact ⟨rfl, (Only.refl _ w).alloc _⟩
theorem clear_yes {w : World} {b g n : Nat} {v : Nat → BitVec 8} (h : GroupsAt w b g n v) {i : Nat} (hi : i < n) (z : Int) : Calls Try.prog 10 #[.pointer (some ⟨b, 0, none⟩), .int .i64 i, .int .i64 z] w (ChangeEnd w b g n v i (v i &&& ~~~ low z)) := by
  have hmf' := hmf
  obtain ⟨X, hX⟩ : ∃ X, X = w.heap.size := ⟨_, rfl⟩
  have hc := Lib.hid (change_clear (h.new ((Only.refl _ w).alloc (.cells #[.int .i64 z] 3))) hi (X := X) (z := z) (row_cell (L := [.int .i64 z]) (heap_new_at w _ hX.symm) rfl))
  clear h hi
  go_enter Try.func10, Try.ntmps10
  go_wp2_with fail
  rw [← hX]
  refine hc.out.mono ?_
  rintro e w' ⟨rfl, h1, h2⟩
  have h1' := Lib.hid h1
  have h2' := Lib.hid h2
  clear h1 h2
  go_wp2
  go_ret2
  exact ⟨rfl, h1'.out, (((Only.refl (fun k => k = g) w).alloc _).trans' h2'.out)⟩

theorem value_nil (i : Int) (w : World) : Calls Try.prog 13 #[.pointer none, .int .i64 i] w (NoEnd w) := by
  go_enter Try.func13, Try.ntmps13
  go_wp2_with fail
  refine (change_nil _ _ _).mono ?_
  rintro e w' ⟨rfl, hw⟩
  subst hw
  go_wp2
  go_ret2
  exact ⟨rfl, Only.refl _ w⟩
theorem gvalue_no {w : World} {b g n : Nat} {v : Nat → BitVec 8} (h : GroupsAt w b g n v) {i : Int} (hi : i < 0 ∨ n ≤ i) : Calls Try.prog 13 #[.pointer (some ⟨b, 0, none⟩), .int .i64 i] w (NoEnd w) := by
  have hc := Lib.hid (fun F => change_no h.cell F hi)
  clear h hi
  go_enter Try.func13, Try.ntmps13
  go_wp2_with fail
  refine (hc.out _).mono ?_
  rintro e w' ⟨rfl, hw⟩
  subst hw
  go_wp2
  go_ret2
  exact ⟨rfl, Only.refl _ w⟩
theorem gvalue_yes {w : World} {b g n : Nat} {v : Nat → BitVec 8} (h : GroupsAt w b g n v) {i : Nat} (hi : i < n) : Calls Try.prog 13 #[.pointer (some ⟨b, 0, none⟩), .int .i64 i] w fun e w' => e = .returned (.tuple #[.int .i64 ((v i).toNat : Int), .int .i64 0]) ∧ GroupsAt w' b g n v ∧ Only (fun k => k = g) w w' := by
  have hc := Lib.hid (change_value h hi)
  clear h hi
  go_enter Try.func13, Try.ntmps13
  go_wp2_with fail
  refine hc.out.mono ?_
  rintro e w' ⟨rfl, h1, h2⟩
  rw [upd_same] at h1
  have h1' := Lib.hid h1
  have h2' := Lib.hid h2
  clear h1 h2
  go_wp2
  go_ret2
  exact ⟨rfl, h1'.out, h2'.out⟩
theorem test_nil (i z : Int) (a : Bool) (w : World) : Calls Try.prog 11 #[.pointer none, .int .i64 i, .int .i64 z, .bool a] w (NoTest w) := by
  go_enter Try.func11, Try.ntmps11
  go_wp2_with fail
  refine (value_nil _ _).mono ?_
  rintro e w' ⟨rfl, h1⟩
  have h1' := Lib.hid h1
  clear h1
  go_wp2
  go_ret2
  exact ⟨rfl, h1'.out⟩
theorem test_no {w : World} {b g n : Nat} {v : Nat → BitVec 8} (h : GroupsAt w b g n v) {i : Int} (hi : i < 0 ∨ n ≤ i) (z : Int) (a : Bool) : Calls Try.prog 11 #[.pointer (some ⟨b, 0, none⟩), .int .i64 i, .int .i64 z, .bool a] w (NoTest w) := by
  have hc := Lib.hid (gvalue_no h hi)
  clear h hi
  go_enter Try.func11, Try.ntmps11
  go_wp2_with fail
  refine hc.out.mono ?_
  rintro e w' ⟨rfl, h1⟩
  have h1' := Lib.hid h1
  clear h1
  go_wp2
  go_ret2
  exact ⟨rfl, h1'.out⟩
theorem eq_low (y : BitVec 8) (z : Int) : (((y.toNat : Int) == z % 256) : Bool) = (y == low z) := by
  rw [Bool.eq_iff_iff, beq_iff_eq, beq_iff_eq, ← low_toNat]
  constructor
  · intro h
    apply BitVec.eq_of_toNat_eq
    omega
  · intro h
    rw [h]
theorem eq_zero8 (y : BitVec 8) : (((y.toNat : Int) == 0) : Bool) = (y == 0#8) := by
  rw [Bool.eq_iff_iff, beq_iff_eq, beq_iff_eq]
  constructor
  · intro h
    apply BitVec.eq_of_toNat_eq
    simp
    omega
  · intro h
    rw [h]
    rfl

theorem test_true {w : World} {b g n : Nat} {v : Nat → BitVec 8} (h : GroupsAt w b g n v) {i : Nat} (hi : i < n) (z : Int) : Calls Try.prog 11 #[.pointer (some ⟨b, 0, none⟩), .int .i64 i, .int .i64 z, .bool true] w (TestEnd w b g n v (allUp (v i) (low z) 8)) := by
  have hc := Lib.hid (gvalue_yes h hi)
  have hb := Lib.hid (bits_and_u8 (v i) z)
  obtain ⟨y, hy⟩ : ∃ y, y = v i &&& low z := ⟨_, rfl⟩
  have hy' := Lib.hid hy
  rw [← hy] at hb
  have hu0 := (v i).isLt
  generalize (v i).toNat = u at hc hu0 hb
  have hb0 := hb.out
  clear h hi hy
  go_enter Try.func11, Try.ntmps11
  go_wp2_with fail
  refine hc.out.mono ?_
  rintro e w' ⟨rfl, h1, h2⟩
  have h1' := Lib.hid h1
  have h2' := Lib.hid h2
  clear h1 h2
  go_wp2
  go_ret2
  refine ⟨?_, h1'.out, h2'.out⟩
  show Ending.returned (.tuple #[.bool ((y.toNat : Int) == z % 256), .int .i64 0]) = _
  rw [eq_low, hy'.out, allUp_8]

theorem test_false {w : World} {b g n : Nat} {v : Nat → BitVec 8} (h : GroupsAt w b g n v) {i : Nat} (hi : i < n) (z : Int) : Calls Try.prog 11 #[.pointer (some ⟨b, 0, none⟩), .int .i64 i, .int .i64 z, .bool false] w (TestEnd w b g n v (anyUp (v i) (low z) 8)) := by
  have hc := Lib.hid (gvalue_yes h hi)
  have hb := Lib.hid (bits_and_u8 (v i) z)
  obtain ⟨y, hy⟩ : ∃ y, y = v i &&& low z := ⟨_, rfl⟩
  have hy' := Lib.hid hy
  rw [← hy] at hb
  have hu0 := (v i).isLt
  generalize (v i).toNat = u at hc hu0 hb
  have hb0 := hb.out
  clear h hi hy
  go_enter Try.func11, Try.ntmps11
  go_wp2_with fail
  refine hc.out.mono ?_
  rintro e w' ⟨rfl, h1, h2⟩
  have h1' := Lib.hid h1
  have h2' := Lib.hid h2
  clear h1 h2
  go_wp2
  go_ret2
  refine ⟨?_, h1'.out, h2'.out⟩
  show Ending.returned (.tuple #[.bool (!((y.toNat : Int) == 0)), .int .i64 0]) = _
  rw [eq_zero8, hy'.out, anyUp_8]
end Go.Proofs.Ytbmpmmfomcnchaa
