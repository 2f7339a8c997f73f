/- Package prog's Numbers and Op, and the document's own: one number for both. -/
import Derived.Test.YteeleelkepjoaaaRows
import Derived.Test.YteeleelkepjoaaaWd
import Derived.Test.YteeleelkepjoaaaWin
import Derived.Test.YteeleelkepjoaaaTail
import Derived.Test.YteeleelkepjoaaaRowed
import Derived.StillTailTactics
import Derived.BigQuiet
import Derived.BigRegion
import Derived.ProofKit
import Derived.Outline
import Derived.RegionTactic
import Derived.Deep.RegionLaw
import Derived.WalkLawsBesides
import Derived.WalkSpells
import Derived.WalkSmall
import Derived.OwnWalk
import Derived.IntWalk
import Derived.LoopTactic
import Derived.Deep.LoopGhost
namespace Go.Proofs.Yteeleelkepjoaaa
open Go Go.RowKit

def wnums : List Int := [0, 1, 1, 0, 0, 1, 1, 1, 1, 2, 1, 2, 2, 2, 1, 1]
def wnames : List ByteArray := [⟨#[]⟩, ⟨#[99, 111, 109, 112, 117, 116, 101]⟩, ⟨#[97, 99, 99, 101, 115, 115]⟩, ⟨#[101, 110, 116, 101, 114]⟩, ⟨#[101, 120, 105, 116]⟩, ⟨#[108, 111, 99, 107]⟩, ⟨#[117, 110, 108, 111, 99, 107]⟩, ⟨#[112, 117, 115, 104]⟩, ⟨#[112, 111, 112]⟩, ⟨#[115, 101, 110, 100]⟩, ⟨#[114, 101, 99, 118]⟩, ⟨#[115, 101, 116]⟩, ⟨#[99, 108, 101, 97, 114]⟩, ⟨#[116, 101, 115, 116]⟩, ⟨#[103, 105, 118, 101]⟩, ⟨#[116, 97, 107, 101]⟩]
/-- The table of words, in the block of its variable. -/
def Words (w : World) : Prop := ∀ (k : Nat) (s : ByteArray) (n : Int), wnames[k]? = some s → wnums[k]? = some n → w.cell? ⟨999, k * 2, none⟩ = some (.string s) ∧ w.cell? ⟨999, k * 2 + 1, none⟩ = some (.int .i64 n)
theorem Words.new {w w' : World} (h : Words w) (ho : Only (fun _ => False) w w') : Words w' := fun k s n h1 h2 => ⟨ho.cell (h k s n h1 h2).1 (fun h => h), ho.cell (h k s n h1 h2).2 (fun h => h)⟩

/-- Answers: a number, the world as it was; a bool or a number, the world grown. -/
def RetI (v : Int) (w : World) (e : Ending) (w' : World) : Prop := e = .returned (.int .i64 v) ∧ w = w'
def GrowI (v : Int) (w : World) (e : Ending) (w' : World) : Prop := e = .returned (.int .i64 v) ∧ Only (fun _ => False) w w'
def RetB (v : Bool) (w : World) (e : Ending) (w' : World) : Prop := e = .returned (.bool v) ∧ w = w'
def GrowB (v : Bool) (w : World) (e : Ending) (w' : World) : Prop := e = .returned (.bool v) ∧ Only (fun _ => False) w w'
def GrowV (v : Value) (w : World) (e : Ending) (w' : World) : Prop := e = .returned v ∧ Only (fun _ => False) w w'
theorem ret_int {k : IntKind} {a b : Int} (h : a = b) : Ending.returned (.int k a) = .returned (.int k b) := by rw [h]
theorem ret_bool {a b : Bool} (h : a = b) : Ending.returned (.bool a) = .returned (.bool b) := by rw [h]
/-- Is a number from one to another one? -/
def inB (a b n : Int) : Bool := decide (a ≤ n ∧ n ≤ b)

/-- How many numbers a kind has. -/
def numZ (k : Int) : Int := if k < 1 ∨ 15 < k then -1 else wnums.getD k.toNat 0
theorem kinds {k : Int} (h : ¬ (k < 1 ∨ 15 < k)) : k = 1 ∨ k = 2 ∨ k = 3 ∨ k = 4 ∨ k = 5 ∨ k = 6 ∨ k = 7 ∨ k = 8 ∨ k = 9 ∨ k = 10 ∨ k = 11 ∨ k = 12 ∨ k = 13 ∨ k = 14 ∨ k = 15 := by omega

theorem numZ_in {k : Nat} (h1 : 1 ≤ k) (h2 : k ≤ 15) : numZ (k : Int) = wnums.getD k 0 := by
  unfold numZ
  rw [if_neg (by omega)]
  rfl

set_option maxHeartbeats 800000 in
theorem rnumbers_any (w : World) (n : Int) : Calls Try.prog 71 #[.int .i64 n] w (RetI (numZ n) w) := by
  by_cases hk : n < 1 ∨ 15 < n
  · have hz := Lib.hid (show -1 = numZ n by unfold numZ; rw [if_pos hk])
    have e3 : (n == 3) = false := by simp; omega
    have e4 : (n == 4) = false := by simp; omega
    have e9 : (n == 9) = false := by simp; omega
    have e11 : (n == 11) = false := by simp; omega
    have e12 : (n == 12) = false := by simp; omega
    have e13 : (n == 13) = false := by simp; omega
    by_cases h1 : n < 1
    · clear hk
      go_enter Try.func71, Try.ntmps71
      go_wp2
      go_ret
      exact ⟨ret_int hz.out, rfl⟩
    · have h2 : 15 < n := by omega
      clear hk
      go_enter Try.func71, Try.ntmps71
      go_wp2
      go_ret
      exact ⟨ret_int hz.out, rfl⟩
  · rcases kinds hk with rfl | rfl | rfl | rfl | rfl | rfl | rfl | rfl | rfl | rfl | rfl | rfl | rfl | rfl | rfl
    all_goals
      clear hk
      go_enter Try.func71, Try.ntmps71
      go_wp2
      go_ret
      exact ⟨rfl, rfl⟩

theorem in_any (w : World) (n a b : Int) : Calls Try.prog 72 #[.int .i64 n, .int .i64 a, .int .i64 b] w (RetB (inB a b n) w) := by
  by_cases h1 : a ≤ n
  · by_cases h2 : n ≤ b
    · have hz := Lib.hid (show true = inB a b n by simp [inB, h1, h2])
      go_enter Try.func72, Try.ntmps72
      go_wp2
      go_ret
      exact ⟨ret_bool hz.out, rfl⟩
    · have hz := Lib.hid (show false = inB a b n by simp [inB]; omega)
      go_enter Try.func72, Try.ntmps72
      go_wp2
      go_ret
      exact ⟨ret_bool hz.out, rfl⟩
  · have hz := Lib.hid (show false = inB a b n by simp [inB]; omega)
    go_enter Try.func72, Try.ntmps72
    go_wp2
    go_ret
    exact ⟨ret_bool hz.out, rfl⟩

def spanV (a b : Int) : Value := .agg #[.int .i64 a, .int .i64 b]
/-- What there is: how many objects of each kind. -/
structure RoomV where
  m : Int
  g : Int
  c : Int
  l : Int
def RoomV.val (r : RoomV) : Value := .agg #[.int .i64 r.m, .int .i64 r.g, .int .i64 r.c, .int .i64 r.l]
def RoomV.ok (r : RoomV) : Prop := (-1000 ≤ r.m ∧ r.m ≤ 1000) ∧ (-1000 ≤ r.g ∧ r.g ≤ 1000) ∧ (-1000 ≤ r.c ∧ r.c ≤ 1000) ∧ (-1000 ≤ r.l ∧ r.l ≤ 1000)
/-- The greatest number that A may be, and the least; of B. -/
def hiA (k : Nat) (r : RoomV) : Int := [0, 1000, 255, 0, 0, max r.l 0 - 1, max r.l 0 - 1, 4096, 4096, max r.m 0 - 1, max r.m 0 - 1, max r.g 0 - 1, max r.g 0 - 1, max r.g 0 - 1, max r.c 0 - 1, max r.c 0 - 1].getD k 0
def loA (k : Nat) : Int := [0, 1, 0, 0, 0, 0, 0, 1, 1, 0, 0, 0, 0, 0, 0, 0].getD k 0
def hiB (k : Nat) : Int := [0, 0, 0, 0, 0, 0, 0, 0, 0, 255, 0, 255, 255, 255, 0, 0].getD k 0

end Go.Proofs.Yteeleelkepjoaaa
