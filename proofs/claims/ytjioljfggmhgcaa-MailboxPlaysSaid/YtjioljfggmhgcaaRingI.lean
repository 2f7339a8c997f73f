/- The contracts of a ring's calls (elements: Int). No conditions beside each theorem's own. -/
import Derived.Test.YtjioljfggmhgcaaRows
import Derived.ProofKit
import Derived.OpenShut
import Derived.Deep.QuietTactic
import Derived.BigQuiet
import Derived.StillTailTactics
import Derived.Outline
import Derived.IntWalk
import Derived.WalkLawsBesides
import Derived.WalkSpells
import Derived.WalkSmall
import Derived.OwnWalk
import Derived.Deep.RegionLaw
import Derived.KernelRfl
import Derived.Test.YtjioljfggmhgcaaTail
import Derived.Test.YtjioljfggmhgcaaMem
namespace Go.Proofs.Ytjioljfggmhgcaa.RingI
open Go.RowKit

def mk (x : Int) : Value := .int .i64 x
theorem mk_one (x : Int) : (mk x).oneCell' = true := rfl
/-- The slots' value: nil, or a whole block. -/
def sv : Option Nat → Nat → Value
  | none, _ => .slice none 0 0
  | some g, n => .slice (some ⟨g, 0, none⟩) n n

/-- What a ring is made of: its slots, the first one's place. -/
structure Laid (L : List Int) (first : Nat) (room : Nat) (q : List Int) : Prop where
  le : q.length ≤ L.length
  fits : L.length ≤ room
  most : room ≤ 4096
  place : first < L.length ∨ (L = [] ∧ first = 0)
  at_ : ∀ i, i < q.length → L[(first + i) % L.length]? = q[i]?

/-- The ring at block r, its slots at block o: room, and what is in it, in order. -/
def RingAt (w : World) (r : Nat) (o : Option Nat) (room : Nat) (q : List Int) : Prop :=
  ∃ (t : TypeId) (first : Nat) (L : List Int),
    w.heap[r]? = some (.cells #[sv o L.length, .int .i64 first, .int .i64 q.length, .int .i64 room] t (0, 0)) ∧
    (o = none → L = []) ∧ (∀ g, o = some g → g ≠ r ∧ w.heap[g]? = some (.cells (L.map mk).toArray 3 (0, 0)) ∧ 0 < L.length) ∧ Laid L first room q

def fp (r : Nat) (o : Option Nat) : Nat → Prop := fun k => k = r ∨ some k = o

theorem RingAt.cells {w : World} {r : Nat} {o : Option Nat} {room : Nat} {q : List Int} (h : RingAt w r o room q) :
    ∃ (first : Nat) (L : List Int), w.cell? ⟨r, 0, none⟩ = some (sv o L.length) ∧ w.cell? ⟨r, 1, none⟩ = some (.int .i64 first) ∧ w.cell? ⟨r, 2, none⟩ = some (.int .i64 q.length) ∧ w.cell? ⟨r, 3, none⟩ = some (.int .i64 room) ∧
      w.frozen? ⟨r, 0, none⟩ = false ∧ w.frozen? ⟨r, 1, none⟩ = false ∧ w.frozen? ⟨r, 2, none⟩ = false ∧ w.frozen? ⟨r, 3, none⟩ = false ∧
      (o = none → L = []) ∧ (∀ g, o = some g → g ≠ r ∧ w.heap[g]? = some (.cells (L.map mk).toArray 3 (0, 0)) ∧ 0 < L.length) ∧ Laid L first room q := by
  obtain ⟨t, first, L, h, h1, h2, h3⟩ := h
  refine ⟨first, L, ?_, ?_, ?_, ?_, ?_, ?_, ?_, ?_, h1, h2, h3⟩ <;> simp [World.cell?, World.frozen?, h]

theorem RingAt.kept {w w' : World} {S : Nat → Prop} {r : Nat} {o : Option Nat} {room : Nat} {q : List Int} (h : RingAt w r o room q) (hw : Only S w w') (hS : ∀ k, fp r o k → ¬ S k) : RingAt w' r o room q := by
  obtain ⟨t, first, L, h, h1, h2, h3⟩ := h
  exact ⟨t, first, L, hw.heap h (hS r (.inl rfl)), h1, fun g hg => ⟨(h2 g hg).1, hw.heap (h2 g hg).2.1 (hS g (.inr hg.symm)), (h2 g hg).2.2⟩, h3⟩
theorem RingAt.lt {w : World} {r : Nat} {o : Option Nat} {room : Nat} {q : List Int} (h : RingAt w r o room q) : ∀ k, fp r o k → k < w.heap.size := by
  obtain ⟨t, first, L, h, h1, h2, h3⟩ := h
  rintro k (rfl | hk)
  · exact row_lt h
  · exact row_lt (h2 k hk.symm).2.1
theorem RingAt.drewN {w : World} {r : Nat} {o : Option Nat} {room : Nat} {q : List Int} (h : RingAt w r o room q) (n : Nat) : RingAt (w.drewN n) r o room q := h
theorem RingAt.bounds {w : World} {r : Nat} {o : Option Nat} {room : Nat} {q : List Int} (h : RingAt w r o room q) : q.length ≤ room ∧ room ≤ 4096 := by
  obtain ⟨t, first, L, h, h1, h2, h3⟩ := h
  exact ⟨Nat.le_trans h3.le h3.fits, h3.most⟩

theorem ret_i {k : IntKind} {a b : Int} (h : a = b) : Ending.returned (.int k a) = .returned (.int k b) := by rw [h]

theorem new_ok (n : Nat) (w : World) (h : n ≤ 4096) :
    Calls Try.prog 11 #[.int .i64 n] w fun e w' => e = .returned (.pointer (some ⟨w.heap.size, 0, none⟩)) ∧ RingAt w' w.heap.size none n [] ∧ Only (fun _ => False) w w' := by
  go_enter Try.func11, Try.ntmps11
  go_wp2
  go_ret
  refine ⟨rfl, ⟨49, 0, [], ?_, fun _ => rfl, (fun g hg => by cases hg), ⟨by simp, by simp, h, .inr ⟨rfl, rfl⟩, by simp⟩⟩, (Only.refl _ _).alloc _⟩
  rw [heap_alloc_new]
  rfl
theorem new_no (n : Int) (w : World) (h : n < 0 ∨ 4096 < n) : Calls Try.prog 11 #[.int .i64 n] w fun e w' => e = .returned (.pointer none) ∧ w' = w := by
  by_cases h0 : n < 0
  · go_enter Try.func11, Try.ntmps11
    go_wp2
    go_ret
    exact ⟨rfl, rfl⟩
  · have h1 : 4096 < n := by omega
    go_enter Try.func11, Try.ntmps11
    go_wp2
    go_ret
    exact ⟨rfl, rfl⟩
theorem len_nil (w : World) : Calls Try.prog 20 #[.pointer none] w fun e w' => e = .returned (.int .i64 0) ∧ w' = w := by
  go_enter Try.func20, Try.ntmps20
  go_wp2
  go_ret
  exact ⟨rfl, rfl⟩
theorem len_any {w : World} {r : Nat} {o : Option Nat} {room : Nat} {q : List Int} (h : RingAt w r o room q) : Calls Try.prog 20 #[.pointer (some ⟨r, 0, none⟩)] w fun e w' => e = .returned (.int .i64 q.length) ∧ w' = w := by
  obtain ⟨first, L, c0, c1, c2, c3, f0, f1, f2, f3, h1, h2, h3⟩ := h.cells
  clear h1 h2 h c0
  go_enter Try.func20, Try.ntmps20
  go_wp2
  go_ret
  exact ⟨rfl, rfl⟩
theorem first_nil (w : World) : Calls Try.prog 17 #[.pointer none] w fun e w' => e = .returned (.tuple #[Value.int .i64 0, .bool false]) ∧ w' = w := by
  go_enter Try.func17, Try.ntmps17
  go_wp2_with (go_at_call 20; refine (len_nil _).mono ?_; rintro e w' ⟨rfl, rfl⟩)
  go_ret2
  exact ⟨rfl, rfl⟩
theorem first_none {w : World} {r : Nat} {o : Option Nat} {room : Nat} (h : RingAt w r o room []) : Calls Try.prog 17 #[.pointer (some ⟨r, 0, none⟩)] w fun e w' => e = .returned (.tuple #[Value.int .i64 0, .bool false]) ∧ w' = w := by
  go_enter Try.func17, Try.ntmps17
  go_wp2_with (go_at_call 20; refine (len_any h).mono ?_; rintro e w' ⟨rfl, rfl⟩)
  go_ret2
  exact ⟨rfl, rfl⟩

/-- The slots' block and a slot's cell, where there is one in it. -/
theorem RingAt.slot {w : World} {r : Nat} {o : Option Nat} {room : Nat} {x : Int} {q : List Int} (h : RingAt w r o room (x :: q)) :
    ∃ (g first : Nat) (L : List Int), o = some g ∧ w.cell? ⟨r, 0, none⟩ = some (.slice (some ⟨g, 0, none⟩) L.length L.length) ∧ w.cell? ⟨r, 1, none⟩ = some (.int .i64 first) ∧ w.cell? ⟨g, first, none⟩ = some (mk x) ∧ first < L.length ∧ L.length ≤ 4096 := by
  obtain ⟨first, L, c0, c1, c2, c3, f0, f1, f2, f3, h1, h2, h3⟩ := h.cells
  have hl : 0 < L.length := Nat.lt_of_lt_of_le (by simp) h3.le
  have hf : first < L.length := by
    rcases h3.place with h | ⟨rfl, _⟩
    · exact h
    · simp at hl
  cases o with
  | none => rw [h1 rfl] at hl; simp at hl
  | some g =>
    refine ⟨g, first, L, rfl, c0, c1, ?_, hf, Nat.le_trans h3.fits h3.most⟩
    refine row_cell (h2 g rfl).2.1 ?_
    have := h3.at_ 0 (by simp)
    rw [Nat.add_zero, Nat.mod_eq_of_lt hf] at this
    simpa using ⟨x, by simpa using this, rfl⟩

theorem first_some {w : World} {r : Nat} {o : Option Nat} {room : Nat} {x : Int} {q : List Int} (h : RingAt w r o room (x :: q)) : Calls Try.prog 17 #[.pointer (some ⟨r, 0, none⟩)] w fun e w' => e = .returned (.tuple #[mk x, .bool true]) ∧ ∃ n, w' = w.drewN n := by
  obtain ⟨g, first, L, rfl, c0, c1, c2, hf, hm⟩ := h.slot
  have hne : (((x :: q).length : Int) == 0) = false := by simp; omega
  have hf' : (first : Int) < (L.length : Int) := by omega
  unfold mk at c2
  obtain ⟨n, hn⟩ : ∃ n, n = (x :: q).length := ⟨_, rfl⟩
  have hc := Lib.hid (len_any h)
  rw [← hn] at hne hc
  have hn' := Lib.hid hn
  clear hn h
  go_enter Try.func17, Try.ntmps17
  go_wp2_with (go_at_call 20; refine hc.out.mono ?_; rintro e w' ⟨rfl, rfl⟩)
  go_quiet (fail)
  go_wp2
  go_ret2
  exact ⟨rfl, _, rfl⟩
end Go.Proofs.Ytjioljfggmhgcaa.RingI
