/- FlagsPlay: the groups and the rows of flags beside them. -/
import Derived.Test.YtbmpmmfomcnchaaFixed11
import Derived.Test.YtbmpmmfomcnchaaActs
import Derived.Deep.CutBlock
namespace Go.Proofs.Ytbmpmmfomcnchaa
open Go Go.RowKit

def upCell (f : Nat → Nat → Bool) (j : Nat) : Value := .bool (f (j / 8) (j % 8))
def upCells (f : Nat → Nat → Bool) (n : Nat) : List Value := (List.range (n * 8)).map (upCell f)
theorem upCells_at (f : Nat → Nat → Bool) {n i c : Nat} (h : i < n) (hc : c < 8) : (upCells f n)[i * 8 + c]? = some (.bool (f i c)) := by
  unfold upCells
  rw [List.getElem?_map, List.getElem?_range (by omega)]
  simp only [Option.map_some, upCell]
  rw [show (i * 8 + c) / 8 = i by omega, show (i * 8 + c) % 8 = c by omega]
def upd2 (f : Nat → Nat → Bool) (i c : Nat) (x : Bool) : Nat → Nat → Bool := fun i' c' => if i' = i ∧ c' = c then x else f i' c'
theorem upCells_set (f : Nat → Nat → Bool) (n i c : Nat) (hc : c < 8) (x : Bool) : (upCells f n).set (i * 8 + c) (.bool x) = upCells (upd2 f i c x) n := by
  unfold upCells
  apply List.ext_getElem?
  intro j
  rw [List.getElem?_set]
  by_cases h : j < n * 8
  · rw [List.getElem?_map, List.getElem?_map, List.getElem?_range h]
    by_cases hij : i * 8 + c = j
    · subst hij
      rw [if_pos rfl, if_pos (by simpa using h)]
      simp only [Option.map_some, upCell]
      rw [show (i * 8 + c) / 8 = i by omega, show (i * 8 + c) % 8 = c by omega]
      unfold upd2
      rw [if_pos ⟨rfl, rfl⟩]
    · rw [if_neg hij]
      simp only [Option.map_some, upCell]
      unfold upd2
      rw [if_neg (by omega)]
  · rw [List.getElem?_eq_none (by simp; omega), List.getElem?_eq_none (by simp; omega)]
    split <;> simp_all
theorem upCells_ext {f f' : Nat → Nat → Bool} {n : Nat} (h : ∀ i c, i < n → c < 8 → f i c = f' i c) : upCells f n = upCells f' n := by
  unfold upCells
  apply List.map_congr_left
  intro j hj
  have := List.mem_range.1 hj
  unfold upCell
  rw [h _ _ (by omega) (by omega)]
def bitsOf (v : Nat → BitVec 8) : Nat → Nat → Bool := fun i c => (v i).getLsbD c

theorem run_make_ups (w : World) (n : Nat) (hn : n ≤ 4) : (Instr.makeSlice 26 (.int .i64 (n : Int)) (.int .i64 (n : Int))).run Try.prog w = .ok (.slice (some ⟨w.heap.size, 0, none⟩) n n) (w.alloc (.cells (upCells (bitsOf fun _ => 0#8) n).toArray 29)) := by
  obtain ⟨z, hz1, hinfo⟩ : ∃ z, z.cells = #[.bool false, .bool false, .bool false, .bool false, .bool false, .bool false, .bool false, .bool false] ∧ (Try.prog.info? 29).map (fun i => (i.zero, i.size, i.bytes)) = some (some z, 8, 8) := ⟨.agg #[.bool false, .bool false, .bool false, .bool false, .bool false, .bool false, .bool false, .bool false], by kernel_rfl, by kernel_rfl⟩
  obtain ⟨i, hi, hzz⟩ := Option.map_eq_some_iff.1 hinfo
  simp only [Prod.mk.injEq] at hzz
  obtain ⟨hz, hs, hb⟩ := hzz
  have hr := run_make (P := Try.prog) w 26 29 i _ Try.underlying26 hi hz .i64 .i64 n n (by omega) (Int.le_refl _) (by rw [hb]; omega) (by omega)
  simp only [Int.toNat_natCast, hs] at hr
  rw [hr, hz1]
  have : madeCells #[.bool false, .bool false, .bool false, .bool false, .bool false, .bool false, .bool false, .bool false] (n * 8) = (upCells (bitsOf fun _ => 0#8) n).toArray := by
    unfold madeCells upCells
    apply Array.ext_getElem?
    intro j
    simp only [Array.getElem?_map, Array.getElem?_range, List.getElem?_toArray, List.getElem?_map]
    by_cases h : j < n * 8
    · rw [if_pos h, List.getElem?_range h]
      have : j % 8 = 0 ∨ j % 8 = 1 ∨ j % 8 = 2 ∨ j % 8 = 3 ∨ j % 8 = 4 ∨ j % 8 = 5 ∨ j % 8 = 6 ∨ j % 8 = 7 := by omega
      rcases this with h2 | h2 | h2 | h2 | h2 | h2 | h2 | h2 <;> simp [upCell, bitsOf, h2]
    · rw [if_neg h, List.getElem?_eq_none (by simp; omega)]
      rfl
  rw [this]

def PF (w : World) (B b g U n : Nat) (v : Nat → BitVec 8) (wr : World) : Prop :=
  GroupsAt wr b g n v ∧ wr.heap[U]? = some (.cells (upCells (bitsOf v) n).toArray 29 (0, 0)) ∧ U ≠ b ∧ U ≠ g ∧ B ≤ b ∧ B ≤ g ∧ B ≤ U ∧ Only (fun x => B ≤ x) w wr
theorem PF.only {w ws : World} {B b g U n : Nat} {v : Nat → BitVec 8} (h : PF w B b g U n v ws) : Only (fun x => B ≤ x) w ws := h.2.2.2.2.2.2.2

/-- What was, flag by flag. -/
def oldCells (x : BitVec 8) : List Value := (List.range 8).map fun c => .bool (x.getLsbD c)
theorem oldCells_at (x : BitVec 8) {c : Nat} (h : c < 8) : (oldCells x)[c]? = some (.bool (x.getLsbD c)) := by
  unfold oldCells
  rw [List.getElem?_map, List.getElem?_range h]
  rfl
/-- What a group is behind an act. -/
def newB (K : Int) (x m : BitVec 8) : BitVec 8 := if K % 4 = 0 then x ||| m else if K % 4 = 1 then x &&& ~~~ m else x
theorem newB_bit (K : Int) (x m : BitVec 8) {c : Nat} (hc : c < 8) : (newB K x m).getLsbD c = if m.getLsbD c && decide (K % 4 < 2) && decide (0 ≤ K % 4) then decide (K % 4 = 0) else x.getLsbD c := by
  have hK : 0 ≤ K % 4 ∧ K % 4 < 4 := by omega
  unfold newB
  by_cases h0 : K % 4 = 0
  · rw [if_pos h0, h0, BitVec.getLsbD_or]
    generalize x.getLsbD c = p
    generalize m.getLsbD c = q
    cases p <;> cases q <;> simp
  · rw [if_neg h0]
    by_cases h1 : K % 4 = 1
    · rw [if_pos h1, h1, BitVec.getLsbD_and, BitVec.getLsbD_not]
      generalize x.getLsbD c = p
      generalize m.getLsbD c = q
      cases p <;> cases q <;> simp [hc]
    · rw [if_neg h1, decide_eq_false (show ¬ K % 4 < 2 by omega)]
      simp
/-- The rows of flags on the way. -/
def partF (v : Nat → BitVec 8) (i : Nat) (y : BitVec 8) (k : Nat) : Nat → Nat → Bool := fun i' c => if i' = i ∧ c < k then y.getLsbD c else (v i').getLsbD c
theorem partF_zero (v : Nat → BitVec 8) (i : Nat) (y : BitVec 8) : partF v i y 0 = bitsOf v := by
  funext i' c
  unfold partF bitsOf
  rw [if_neg (by omega)]
theorem partF_all (v : Nat → BitVec 8) (i n : Nat) (y : BitVec 8) : upCells (partF v i y 8) n = upCells (bitsOf (upd v i y)) n := by
  apply upCells_ext
  intro i' c _ hc
  unfold partF bitsOf
  by_cases h : i' = i
  · subst h
    rw [if_pos ⟨rfl, hc⟩, upd_self]
  · rw [if_neg (by omega), upd_ne _ _ h]
theorem partF_keep (v : Nat → BitVec 8) (i n k : Nat) (y : BitVec 8) (h : y.getLsbD k = (v i).getLsbD k) : upCells (partF v i y (k + 1)) n = upCells (partF v i y k) n := by
  apply upCells_ext
  intro i' c _ _
  unfold partF
  by_cases h1 : i' = i
  · subst h1
    by_cases h2 : c < k
    · rw [if_pos ⟨rfl, by omega⟩, if_pos ⟨rfl, h2⟩]
    · by_cases h3 : c = k
      · subst h3
        rw [if_pos ⟨rfl, by omega⟩, if_neg (by omega), h]
      · rw [if_neg (by omega), if_neg (by omega)]
  · rw [if_neg (by omega), if_neg (by omega)]
theorem partF_set (v : Nat → BitVec 8) (i n k : Nat) (y : BitVec 8) : upCells (upd2 (partF v i y k) i k (y.getLsbD k)) n = upCells (partF v i y (k + 1)) n := by
  apply upCells_ext
  intro i' c _ _
  unfold upd2 partF
  by_cases h1 : i' = i
  · subst h1
    by_cases h3 : c = k
    · subst h3
      rw [if_pos ⟨rfl, rfl⟩, if_pos ⟨rfl, by omega⟩]
    · rw [if_neg (by omega)]
      by_cases h2 : c < k
      · rw [if_pos ⟨rfl, h2⟩, if_pos ⟨rfl, by omega⟩]
      · rw [if_neg (by omega), if_neg (by omega)]
  · rw [if_neg (by omega), if_neg (by omega), if_neg (by omega)]

/-- What holds while a round counts. -/
structure Inn (w : World) (B b g U n X Y : Nat) (v : Nat → BitVec 8) (F : Nat → Nat → Bool) (K I M : Int) (x : BitVec 8) (wr : World) : Prop where
  groups : GroupsAt wr b g n v
  ups : wr.heap[U]? = some (.cells (upCells F n).toArray 29 (0, 0))
  act : wr.heap[X]? = some (.cells #[.int .u8 K, .int .i64 I, .int .i64 M] 28 (0, 0))
  was : wr.heap[Y]? = some (.cells (oldCells x).toArray 29 (0, 0))
  apart : U ≠ b ∧ U ≠ g ∧ X ≠ b ∧ X ≠ g ∧ X ≠ U ∧ Y ≠ b ∧ Y ≠ g ∧ Y ≠ U ∧ Y ≠ X
  base : B ≤ b ∧ B ≤ g ∧ B ≤ U
  only : Only (fun k => B ≤ k) w wr
section
variable {w ws : World} {B b g U n X Y : Nat} {v : Nat → BitVec 8} {F : Nat → Nat → Bool} {K I M : Int} {x : BitVec 8}
theorem Inn.acts (h : Inn w B b g U n X Y v F K I M x ws) : ws.cell? ⟨X, 0, none⟩ = some (.int .u8 K) ∧ ws.cell? ⟨X, 1, none⟩ = some (.int .i64 I) ∧ ws.cell? ⟨X, 2, none⟩ = some (.int .i64 M) := by
  have := h.act
  refine ⟨?_, ?_, ?_⟩ <;> simp [World.cell?, this]
theorem Inn.wasAt (h : Inn w B b g U n X Y v F K I M x ws) {c : Nat} (hc : c < 8) : ws.cell? ⟨Y, c, none⟩ = some (.bool (x.getLsbD c)) := row_cell h.was (oldCells_at x hc)
theorem Inn.upAt (h : Inn w B b g U n X Y v F K I M x ws) {i c : Nat} (hi : i < n) (hc : c < 8) : ws.cell? ⟨U, i * 8 + c, none⟩ = some (.bool (F i c)) ∧ ws.frozen? ⟨U, i * 8 + c, none⟩ = false := ⟨row_cell h.ups (upCells_at F hi hc), row_free h.ups _⟩
theorem Inn.same {F' : Nat → Nat → Bool} (h : Inn w B b g U n X Y v F K I M x ws) (hF : upCells F' n = upCells F n) : Inn w B b g U n X Y v F' K I M x ws := by
  obtain ⟨h1, h2, h3, h4, h5, h6, h7⟩ := h
  exact ⟨h1, hF ▸ h2, h3, h4, h5, h6, h7⟩
theorem Inn.set {i c : Nat} (h : Inn w B b g U n X Y v F K I M x ws) (hc : c < 8) (y : Bool) (m : Nat) : Inn w B b g U n X Y v (upd2 F i c y) K I M x ((ws.drewN m).setCell ⟨U, i * 8 + c, none⟩ (.bool y)) := by
  obtain ⟨h1, h2, h3, h4, ⟨a1, a2, a3, a4, a5, a6, a7, a8, a9⟩, h6, h7⟩ := h
  have o : Only (fun k => k = U) ws ((ws.drewN m).setCell ⟨U, i * 8 + c, none⟩ (.bool y)) := ((Only.refl (fun k => k = U) ws).drewN m).setCell (p := ⟨U, i * 8 + c, none⟩) (fun _ => rfl) _
  refine ⟨h1.kept o (fun e => a1 e.symm) (fun e => a2 e.symm), ?_, o.heap h3 a5, o.heap h4 a8, ⟨a1, a2, a3, a4, a5, a6, a7, a8, a9⟩, h6, (h7.trans o (fun k _ e => by subst e; exact h6.2.2))⟩
  rw [← upCells_set _ _ _ _ hc]
  exact row_set (w := ws.drewN m) h2 _ _
theorem Inn.start {w1 w2 : World} (h : PF w B b g U n v w1 ∧ X ≠ b ∧ X ≠ g ∧ X ≠ U ∧ B ≤ X) (hX : w1.heap[X]? = some (.cells #[.int .u8 K, .int .i64 I, .int .i64 M] 28 (0, 0))) (h2 : w1.alloc (.cells (oldCells x).toArray 29) = w2) (hY : w1.heap.size = Y) : Inn w B b g U n X Y v (bitsOf v) K I M x w2 := by
  obtain ⟨⟨p1, p2, p3, p4, p5, p6, p7, p8⟩, q1, q2, q3, q4⟩ := h
  subst h2
  have o : Only (fun _ => False) w1 (w1.alloc (.cells (oldCells x).toArray 29)) := (Only.refl _ w1).alloc _
  have l1 : b < w1.heap.size := by obtain ⟨t, hb⟩ := p1.box; exact row_lt hb
  have l2 : g < w1.heap.size := row_lt p1.row
  have l3 := row_lt p2
  have l4 := row_lt hX
  exact ⟨p1.new o, o.heap p2 (fun h => h), o.heap hX (fun h => h), heap_new_at _ _ hY, ⟨p3, p4, q1, q2, q3, by omega, by omega, by omega, by omega⟩, ⟨p5, p6, p7⟩, p8.alloc _⟩
theorem Inn.done {i : Nat} {y : BitVec 8} {w3 : World} (h : Inn w B b g U n X Y v (partF v i y 8) K I M x ws) (h3 : GroupsAt w3 b g n (upd v i y)) (ho : Only (fun k => k = g) ws w3) : PF w B b g U n (upd v i y) w3 := by
  obtain ⟨h1, h2, _, _, ⟨a1, a2, _⟩, ⟨b1, b2, b3⟩, h7⟩ := h
  rw [partF_all] at h2
  exact ⟨h3, ho.heap h2 a2, a1, a2, b1, b2, b3, h7.trans ho (fun k _ e => by subst e; exact b2)⟩
theorem Inn.none {w3 : World} (h : Inn w B b g U n X Y v (bitsOf v) K I M x ws) (ho : Only (fun _ => False) ws w3) : PF w B b g U n v w3 := by
  obtain ⟨h1, h2, _, _, ⟨a1, a2, _⟩, ⟨b1, b2, b3⟩, h7⟩ := h
  exact ⟨h1.new ho, ho.heap h2 (fun h => h), a1, a2, b1, b2, b3, h7.trans ho (fun k _ e => e.elim)⟩
end
end Go.Proofs.Ytbmpmmfomcnchaa
