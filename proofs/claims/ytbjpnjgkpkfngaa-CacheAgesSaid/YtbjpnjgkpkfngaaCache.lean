/- The cache in memory: its rows over ghost lists; what only looks. -/
import Derived.Test.YtbjpnjgkpkfngaaRows
import Derived.Test.YtbjpnjgkpkfngaaWd
import Derived.Test.YtbjpnjgkpkfngaaWin
import Derived.Test.YtbjpnjgkpkfngaaTail
import Derived.Test.YtbjpnjgkpkfngaaRowed
import Derived.StillTailTactics
import Derived.BigQuiet
import Derived.BigRegion
import Derived.ProofKit
import Derived.Outline
import Derived.RegionTactic
import Derived.Deep.RegionLaw
import Derived.WalkLawsBesides
import Derived.WalkSpells
import Derived.WalkSmall
import Derived.OwnWalk
import Derived.IntWalk
import Derived.LoopTactic
import Derived.Deep.LoopGhost
namespace Go.Proofs.Ytbjpnjgkpkfngaa
open Go Go.RowKit

def RetI (v : Int) (w : World) (e : Ending) (w' : World) : Prop := e = .returned (.int .i64 v) ∧ w = w'
def RetB (v : Bool) (w : World) (e : Ending) (w' : World) : Prop := e = .returned (.bool v) ∧ w = w'
theorem ret_int {k : IntKind} {a b : Int} (h : a = b) : Ending.returned (.int k a) = .returned (.int k b) := by rw [h]
theorem ret_bool {a b : Bool} (h : a = b) : Ending.returned (.bool a) = .returned (.bool b) := by rw [h]

def rowV (M W i n : Nat) : Value := .slice (some ⟨M, i * W, none⟩) n W
def rowsL (M S W : Nat) (G : Nat → List Int) : List Value := (List.range S).map fun i => rowV M W i (G i).length
/-- A cache of S sets and W ways: its struct in block r, its rows in R, their room in M; each set's blocks. -/
structure CacheAt (w : World) (r R M S W : Nat) (G : Nat → List Int) : Prop where
  hS : 1 ≤ S ∧ S ≤ 16
  hW : 1 ≤ W ∧ W ≤ 4
  root : w.heap[r]? = some (.cells [.slice (some ⟨R, 0, none⟩) S S].toArray 39 (0, 0))
  rows : w.heap[R]? = some (.cells (rowsL M S W G).toArray 34 (0, 0))
  len : ∀ i, i < S → (G i).length ≤ W
  room : ∃ L : List Value, w.heap[M]? = some (.cells L.toArray 3 (0, 0)) ∧ L.length = S * W ∧ ∀ i, i < S → ∀ j x, (G i)[j]? = some x → L[i * W + j]? = some (.int .i64 x)

theorem CacheAt.kept {A : Nat → Prop} {w w' : World} {r R M S W : Nat} {G : Nat → List Int} (h : CacheAt w r R M S W G) (ho : Only A w w') (h1 : ¬ A r) (h2 : ¬ A R) (h3 : ¬ A M) : CacheAt w' r R M S W G := by
  obtain ⟨L, hL, hl, hc⟩ := h.room
  exact ⟨h.hS, h.hW, ho.heap h.root h1, ho.heap h.rows h2, h.len, L, ho.heap hL h3, hl, hc⟩
theorem CacheAt.new {w w' : World} {r R M S W : Nat} {G : Nat → List Int} (h : CacheAt w r R M S W G) (ho : Only (fun _ => False) w w') : CacheAt w' r R M S W G := h.kept ho id id id
theorem CacheAt.lt {w : World} {r R M S W : Nat} {G : Nat → List Int} (h : CacheAt w r R M S W G) : r < w.heap.size ∧ R < w.heap.size ∧ M < w.heap.size := by
  obtain ⟨L, hL, _⟩ := h.room
  exact ⟨row_lt h.root, row_lt h.rows, row_lt hL⟩
theorem CacheAt.ne {w : World} {r R M S W : Nat} {G : Nat → List Int} (h : CacheAt w r R M S W G) : r ≠ R ∧ r ≠ M ∧ R ≠ M := by
  obtain ⟨L, hL, _⟩ := h.room
  refine ⟨fun e => ?_, fun e => ?_, fun e => ?_⟩
  · have := h.root; rw [e, h.rows] at this; simp at this
  · have := h.root; rw [e, hL] at this; simp at this
  · have := h.rows; rw [e, hL] at this; simp at this
theorem rowsL_at (M S W : Nat) (G : Nat → List Int) (i : Nat) (hi : i < S) : (rowsL M S W G)[i]? = some (rowV M W i (G i).length) := by
  unfold rowsL
  rw [List.getElem?_map, List.getElem?_range hi]
  rfl
/-- A row's cells. -/
theorem CacheAt.cell {w : World} {r R M S W : Nat} {G : Nat → List Int} (h : CacheAt w r R M S W G) {i j : Nat} (hi : i < S) {x : Int} (hx : (G i)[j]? = some x) : w.cell? ⟨M, i * W + j, none⟩ = some (.int .i64 x) := by
  obtain ⟨L, hL, _, hc⟩ := h.room
  exact row_cell hL (hc i hi j x hx)

def isB (b : Int) : Bool := decide (0 ≤ b ∧ b ≤ 255)
theorem isBlock_any (b : Int) (w : World) : Calls Try.prog 12 #[.int .i64 b] w (RetB (isB b) w) := by
  by_cases h1 : 0 ≤ b
  · by_cases h2 : b ≤ 255
    · have hz := Lib.hid (show true = isB b by simp [isB, h1, h2])
      go_enter Try.func12, Try.ntmps12
      go_wp2
      go_ret
      exact ⟨ret_bool hz.out, rfl⟩
    · have hz := Lib.hid (show false = isB b by simp [isB]; omega)
      go_enter Try.func12, Try.ntmps12
      go_wp2
      go_ret
      exact ⟨ret_bool hz.out, rfl⟩
  · have hz := Lib.hid (show false = isB b by simp [isB]; omega)
    go_enter Try.func12, Try.ntmps12
    go_wp2
    go_ret
    exact ⟨ret_bool hz.out, rfl⟩
theorem sets_any {w : World} {r R M S W : Nat} {G : Nat → List Int} (h : CacheAt w r R M S W G) : Calls Try.prog 14 #[.pointer (some ⟨r, 0, none⟩)] w (RetI S w) := by
  have c0 := row_cell h.root (i := 0) rfl
  clear h
  go_enter Try.func14, Try.ntmps14
  go_wp2
  go_ret
  exact ⟨rfl, rfl⟩
theorem of_any {w : World} {r R M S W : Nat} {G : Nat → List Int} (h : CacheAt w r R M S W G) (b : Nat) (hb : b ≤ 255) : Calls Try.prog 11 #[.pointer (some ⟨r, 0, none⟩), .int .i64 b] w (RetI ((b % S : Nat) : Int) w) := by
  have q1 := Lib.hid (sets_any h)
  have q2 := Lib.hid (isBlock_any b w)
  rw [show isB (b : Int) = true by simp [isB]; omega] at q2
  have hS1 := h.hS.1
  have hS2 := h.hS.2
  have hSz : ((S : Int) == 0) = false := by simp; omega
  have hm : (b : Int) % (S : Int) = ((b % S : Nat) : Int) := by omega
  have hm' := Lib.hid hm
  clear h hm
  go_enter Try.func11, Try.ntmps11
  go_wp2_with (first | (go_at_call 14; refine q1.out.mono ?_; rintro e w' ⟨rfl, rfl⟩) | (go_at_call 12; refine q2.out.mono ?_; rintro e w' ⟨rfl, rfl⟩))
  go_ret
  exact ⟨ret_int hm'.out, rfl⟩

/-- Where a number stands in a row; -1: nowhere. -/
def idxZ (g : List Int) (b : Int) : Int := if b ∈ g then (g.idxOf b : Int) else -1
theorem idxOf_least {b : Int} : ∀ (g : List Int) (k : Nat), k < g.idxOf b → g[k]? ≠ some b
  | [], k, h => by simp at h
  | a :: g, k, h => by
    rw [List.idxOf_cons] at h
    by_cases hab : a = b
    · subst hab
      simp at h
    · have : (a == b) = false := by simpa using hab
      rw [this] at h
      simp only [cond_false] at h
      cases k with
      | zero => simpa using hab
      | succ k =>
        simpa using idxOf_least g k (by omega)
theorem idxZ_at {g : List Int} {b : Int} {k : Nat} (h : g[k]? = some b) (hn : ∀ j, j < k → g[j]? ≠ some b) : idxZ g b = k := by
  have hm : b ∈ g := List.mem_of_getElem? h
  unfold idxZ
  rw [if_pos hm]
  have h1 := List.idxOf_lt_length_iff.2 hm
  have h2 : g[g.idxOf b]? = some b := by rw [List.getElem?_eq_getElem h1, List.getElem_idxOf]
  have h3 : ¬ g.idxOf b < k := fun h => hn _ h h2
  have h4 : ¬ k < g.idxOf b := fun hlt => by
    exact idxOf_least g k hlt h
  omega
theorem idxZ_not {g : List Int} {b : Int} (h : ∀ j, j < g.length → g[j]? ≠ some b) : idxZ g b = -1 := by
  unfold idxZ
  rw [if_neg]
  intro hm
  obtain ⟨j, hj⟩ := List.getElem?_of_mem hm
  exact h j (List.getElem?_eq_some_iff.1 hj).1 hj
/-- slices.Index over a row of ints. -/
theorem index_any {w : World} {B off n cap : Nat} {g : List Int} (hc : ∀ j x, g[j]? = some x → w.cell? ⟨B, off + j, none⟩ = some (.int .i64 x)) (hn : g.length = n) (h9 : n ≤ 1000) (b : Int) : Calls Try.prog 13 #[.slice (some ⟨B, off, none⟩) n cap, .int .i64 b] w (RetI (idxZ g b) w) := by
  have hc' := Lib.hid hc
  have hn' := Lib.hid hn
  clear hc hn
  go_enter Try.func13, Try.ntmps13
  go_wp2
  go_loopw [8] (fun i wr => ∃ k : Nat, k ≤ n ∧ i = .int .i64 k ∧ (∀ j, j < k → g[j]? ≠ some b) ∧ w = wr) (fun i _ => n - (intOf i).toNat)
  case atStart => exact ⟨0, Nat.zero_le _, rfl, (fun j hj => by omega), rfl⟩
  case round =>
    obtain ⟨k, hk, rfl, hno, rfl⟩ := hrel
    have hno' := Lib.hid hno
    clear hno
    by_cases hkn : k < n
    · have hkn' : (k : Int) < (n : Int) := by omega
      obtain ⟨x, hx⟩ : ∃ x, g[k]? = some x := ⟨_, List.getElem?_eq_getElem (by rw [hn'.out]; exact hkn)⟩
      have c0 := hc'.out k x hx
      have hx' := Lib.hid hx
      clear hx
      by_cases hbx : b = x
      · subst hbx
        have hz := Lib.hid (idxZ_at hx'.out hno'.out)
        have bb : (b == b) = true := by simp
        go_wp2
        go_ret
        exact ⟨ret_int hz.out.symm, rfl⟩
      · have hbe : (b == x) = false := by simpa using hbx
        have hnx := Lib.hid (show ∀ j, j < k + 1 → g[j]? ≠ some b from fun j hj => by
          by_cases hjk : j < k
          · exact hno'.out j hjk
          · obtain rfl : j = k := by omega
            rw [hx'.out]
            intro h
            cases h
            exact hbx rfl)
        clear hbx
        go_wp2
        go_roundw
        case rel => exact ⟨k + 1, by omega, by go_num, hnx.out, trivial⟩
        case measure => simp [intOf]; omega
    · obtain rfl : k = n := by omega
      have hz := Lib.hid (idxZ_not (g := g) (b := b) (fun j hj => hno'.out j (by have := hn'.out; omega)))
      go_wp2
      go_ret
      exact ⟨ret_int hz.out.symm, rfl⟩
end Go.Proofs.Ytbjpnjgkpkfngaa
