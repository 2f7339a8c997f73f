/- Locks: rows of structs of a ceiling, a holder, and whether it is held. -/
import Derived.BigQuiet
import Derived.BigRegion
import Derived.Deep.CutRange
import Derived.Deep.DeepCutAuto
import Derived.Deep.LoopGhost
import Derived.Deep.QuietTactic
import Derived.Deep.RegionLaw
import Derived.Deep.RegionWith
import Derived.IntWalk
import Derived.KernelRfl
import Derived.LoopTactic
import Derived.OpenShut
import Derived.Outline
import Derived.OwnWalk
import Derived.ProofKit
import Derived.RegionTactic
import Derived.StillTailTactics
import Derived.Test.YtdoimkmhincmmaaLnLines
import Derived.WalkLawsBesides
import Derived.WalkSmall
import Derived.WalkSpells
namespace Go.Proofs.Ytdoimkmhincmmaa
namespace Lck
open Lin Go Go.RowKit

theorem map_set (c : Nat → Value) (N p : Nat) (v : Value) : ((List.range N).map c).set p v = (List.range N).map (upd c p v) := by
  apply List.ext_getElem?
  intro j
  rw [List.getElem?_set]
  by_cases h : j < N
  · rw [List.getElem?_map, List.getElem?_map, List.getElem?_range h]
    by_cases hij : p = j
    · subst hij
      rw [if_pos rfl, if_pos (by simpa using h)]
      simp [upd_self]
    · rw [if_neg hij]
      simp only [Option.map_some]
      rw [upd_ne _ _ (fun e => hij e.symm)]
  · rw [List.getElem?_eq_none (by simp; omega), List.getElem?_eq_none (by simp; omega)]
    split <;> simp_all

def lkCell (z h : Nat → Int) (d : Nat → Bool) (j : Nat) : Value := if j % 3 = 0 then .int .i64 (z (j / 3)) else if j % 3 = 1 then .int .i64 (h (j / 3)) else .bool (d (j / 3))
def lkCells (z h : Nat → Int) (d : Nat → Bool) (n : Nat) : List Value := (List.range (n * 3)).map (lkCell z h d)
section
variable (z h : Nat → Int) (d : Nat → Bool)
theorem lkCell_z (i : Nat) : lkCell z h d (i * 3) = .int .i64 (z i) := by
  unfold lkCell
  rw [if_pos (by omega), show i * 3 / 3 = i by omega]
theorem lkCell_h (i : Nat) : lkCell z h d (i * 3 + 1) = .int .i64 (h i) := by
  unfold lkCell
  rw [if_neg (by omega), if_pos (by omega), show (i * 3 + 1) / 3 = i by omega]
theorem lkCell_d (i : Nat) : lkCell z h d (i * 3 + 2) = .bool (d i) := by
  unfold lkCell
  rw [if_neg (by omega), if_neg (by omega), show (i * 3 + 2) / 3 = i by omega]
theorem lkCells_at {n i : Nat} (hi : i < n) : (lkCells z h d n)[i * 3]? = some (.int .i64 (z i)) ∧ (lkCells z h d n)[i * 3 + 1]? = some (.int .i64 (h i)) ∧ (lkCells z h d n)[i * 3 + 2]? = some (.bool (d i)) := by
  unfold lkCells
  rw [List.getElem?_map, List.getElem?_map, List.getElem?_map, List.getElem?_range (by omega), List.getElem?_range (by omega), List.getElem?_range (by omega)]
  simp only [Option.map_some, lkCell_z, lkCell_h, lkCell_d, and_self]
theorem lkCells_setZ (n i : Nat) (x : Int) : (lkCells z h d n).set (i * 3) (.int .i64 x) = lkCells (upd z i x) h d n := by
  unfold lkCells
  rw [map_set]
  congr 1
  funext j
  by_cases hj : j = i * 3
  · subst hj
    rw [upd_self, lkCell_z, upd_self]
  · rw [upd_ne _ _ hj]
    unfold lkCell
    by_cases h0 : j % 3 = 0
    · rw [if_pos h0, if_pos h0, upd_ne _ _ (by omega)]
    · rw [if_neg h0, if_neg h0]
theorem lkCells_setH (n i : Nat) (x : Int) : (lkCells z h d n).set (i * 3 + 1) (.int .i64 x) = lkCells z (upd h i x) d n := by
  unfold lkCells
  rw [map_set]
  congr 1
  funext j
  by_cases hj : j = i * 3 + 1
  · subst hj
    rw [upd_self, lkCell_h, upd_self]
  · rw [upd_ne _ _ hj]
    unfold lkCell
    by_cases h0 : j % 3 = 0
    · rw [if_pos h0, if_pos h0]
    · rw [if_neg h0, if_neg h0]
      by_cases h1 : j % 3 = 1
      · rw [if_pos h1, if_pos h1, upd_ne _ _ (by omega)]
      · rw [if_neg h1, if_neg h1]
theorem lkCells_setD (n i : Nat) (x : Bool) : (lkCells z h d n).set (i * 3 + 2) (.bool x) = lkCells z h (upd d i x) n := by
  unfold lkCells
  rw [map_set]
  congr 1
  funext j
  by_cases hj : j = i * 3 + 2
  · subst hj
    rw [upd_self, lkCell_d, upd_self]
  · rw [upd_ne _ _ hj]
    unfold lkCell
    by_cases h0 : j % 3 = 0
    · rw [if_pos h0, if_pos h0]
    · rw [if_neg h0, if_neg h0]
      by_cases h1 : j % 3 = 1
      · rw [if_pos h1, if_pos h1]
      · rw [if_neg h1, if_neg h1, upd_ne _ _ (by omega)]
end
theorem lkCells_congr {z h z' h' : Nat → Int} {d d' : Nat → Bool} {n : Nat} (H : ∀ i, i < n → z i = z' i ∧ h i = h' i ∧ d i = d' i) : lkCells z h d n = lkCells z' h' d' n := by
  unfold lkCells
  apply List.map_congr_left
  intro j hj
  have hj' : j < n * 3 := by simpa using hj
  obtain ⟨a, b, c⟩ := H (j / 3) (by omega)
  unfold lkCell
  rw [a, b, c]

/-- The locks at block b: n of them in block g: their ceilings, who holds them, which are held. -/
structure LkAt (w : World) (b g n : Nat) (z h : Nat → Int) (d : Nat → Bool) : Prop where
  box : ∃ t, w.heap[b]? = some (.cells #[.slice (some ⟨g, 0, none⟩) n n] t (0, 0))
  row : w.heap[g]? = some (.cells (lkCells z h d n).toArray 114 (0, 0))
  ne : b ≠ g

/-- Whether who holds lock i. -/
def mine (h : Nat → Int) (d : Nat → Bool) (who : Int) (i : Nat) : Bool := d i && decide (h i = who)

section
variable {w w' : World} {b g n : Nat} {z h z' h' : Nat → Int} {d d' : Nat → Bool}
theorem LkAt.kept {S : Nat → Prop} (H : LkAt w b g n z h d) (hw : Only S w w') (hb : ¬ S b) (hg : ¬ S g) : LkAt w' b g n z h d := by
  obtain ⟨⟨t, h1⟩, h2, h4⟩ := H
  exact ⟨⟨t, hw.heap h1 hb⟩, hw.heap h2 hg, h4⟩
theorem LkAt.new (H : LkAt w b g n z h d) (hw : Only (fun _ => False) w w') : LkAt w' b g n z h d := H.kept hw (fun h => h) (fun h => h)
theorem LkAt.congr (H : LkAt w b g n z h d) (e : ∀ i, i < n → z i = z' i ∧ h i = h' i ∧ d i = d' i) : LkAt w b g n z' h' d' := ⟨H.box, lkCells_congr e ▸ H.row, H.ne⟩
theorem LkAt.lt (H : LkAt w b g n z h d) : b < w.heap.size ∧ g < w.heap.size := by
  obtain ⟨⟨t, h1⟩, h2, h4⟩ := H
  exact ⟨row_lt h1, row_lt h2⟩
theorem LkAt.cell (H : LkAt w b g n z h d) : w.cell? ⟨b, 0, none⟩ = some (.slice (some ⟨g, 0, none⟩) n n) := by
  obtain ⟨t, hb⟩ := H.box
  simp [World.cell?, hb]
theorem LkAt.cells (H : LkAt w b g n z h d) {i : Nat} (hi : i < n) : w.cell? ⟨g, i * 3, none⟩ = some (.int .i64 (z i)) ∧ w.cell? ⟨g, i * 3 + 1, none⟩ = some (.int .i64 (h i)) ∧ w.cell? ⟨g, i * 3 + 2, none⟩ = some (.bool (d i)) ∧ w.frozen? ⟨g, i * 3 + 1, none⟩ = false ∧ w.frozen? ⟨g, i * 3 + 2, none⟩ = false := by
  obtain ⟨a, b, c⟩ := lkCells_at z h d hi
  exact ⟨row_cell H.row a, row_cell H.row b, row_cell H.row c, row_free H.row _, row_free H.row _⟩
theorem LkAt.put (H : LkAt w b g n z h d) (i : Nat) (x : Int) (y : Bool) : LkAt ((w.setCell ⟨g, i * 3 + 1, none⟩ (.int .i64 x)).setCell ⟨g, i * 3 + 2, none⟩ (.bool y)) b g n z (upd h i x) (upd d i y) := by
  obtain ⟨⟨t, h1⟩, h2, h4⟩ := H
  refine ⟨⟨t, heap_kept_set (heap_kept_set h1 h4 _) h4 _⟩, ?_, h4⟩
  rw [← lkCells_setD, ← lkCells_setH]
  exact row_set (row_set h2 _ _) _ _
end

theorem len_nil (w : World) : Calls Try.prog 100 #[.pointer none] w fun e w' => e = .returned (.int .i64 0) ∧ w = w' := by
  go_enter Try.func100, Try.ntmps100
  go_wp2
  go_ret
  exact ⟨rfl, rfl⟩
theorem len_any {w : World} {b g n : Nat} (h : w.cell? ⟨b, 0, none⟩ = some (.slice (some ⟨g, 0, none⟩) n n)) : Calls Try.prog 100 #[.pointer (some ⟨b, 0, none⟩)] w fun e w' => e = .returned (.int .i64 n) ∧ w = w' := by
  go_enter Try.func100, Try.ntmps100
  go_wp2
  go_ret
  exact ⟨rfl, rfl⟩
theorem has_nil (i : Int) (w : World) : Calls Try.prog 102 #[.pointer none, .int .i64 i] w fun e w' => e = .returned (.bool false) ∧ w = w' := by
  by_cases h : 0 ≤ i
  · have h1 : ¬ i < 0 := by omega
    go_enter Try.func102, Try.ntmps102
    go_wp2_with (go_at_call 100; refine (len_nil _).mono ?_; rintro e w' ⟨rfl, rfl⟩)
    go_ret
    simp [h1]
  · go_enter Try.func102, Try.ntmps102
    go_wp2
    go_ret
    simp
theorem has_no {w : World} {b g n : Nat} (hc : w.cell? ⟨b, 0, none⟩ = some (.slice (some ⟨g, 0, none⟩) n n)) {i : Int} (h : i < 0 ∨ n ≤ i) : Calls Try.prog 102 #[.pointer (some ⟨b, 0, none⟩), .int .i64 i] w fun e w' => e = .returned (.bool false) ∧ w = w' := by
  have hl := Lib.hid (len_any hc)
  clear hc
  by_cases h0 : i < 0
  · clear h
    have h1 : ¬ 0 ≤ i := by omega
    go_enter Try.func102, Try.ntmps102
    go_wp2
    go_ret
    simp
  · have h1 : 0 ≤ i := by omega
    have h2 : ¬ i < n := by omega
    clear h
    go_enter Try.func102, Try.ntmps102
    go_wp2_with (go_at_call 100; refine hl.out.mono ?_; rintro e w' ⟨rfl, rfl⟩)
    go_ret
    simp [h2]
theorem has_yes {w : World} {b g n : Nat} (hc : w.cell? ⟨b, 0, none⟩ = some (.slice (some ⟨g, 0, none⟩) n n)) {i : Nat} (h : i < n) : Calls Try.prog 102 #[.pointer (some ⟨b, 0, none⟩), .int .i64 i] w fun e w' => e = .returned (.bool true) ∧ w = w' := by
  have hl := Lib.hid (len_any hc)
  clear hc
  have h2 : (i : Int) < n := by omega
  go_enter Try.func102, Try.ntmps102
  go_wp2_with (go_at_call 100; refine hl.out.mono ?_; rintro e w' ⟨rfl, rfl⟩)
  go_ret
  simp

section
variable {w : World} {b g n : Nat} {z h : Nat → Int} {d : Nat → Bool}
theorem heldby_any (H : LkAt w b g n z h d) {i : Nat} (hi : i < n) (who : Int) : Calls Try.prog 101 #[.pointer (some ⟨g, i * 3, none⟩), .int .i64 who] w fun e w' => e = .returned (.bool (mine h d who i)) ∧ w = w' := by
  obtain ⟨c1, c2, c3, _, _⟩ := H.cells hi
  clear H
  have hm : ∃ q, q = mine h d who i := ⟨_, rfl⟩
  obtain ⟨q, hq⟩ := hm
  rw [← hq]
  unfold mine at hq
  generalize h i = y at c2 hq
  generalize d i = p at c3 hq
  cases p with
  | false =>
    have hq' : q = false := by rw [hq]; rfl
    clear hq
    subst hq'
    go_enter Try.func101, Try.ntmps101
    go_wp2
    go_ret
    exact ⟨rfl, rfl⟩
  | true =>
    by_cases hy : y = who
    · have hq' : q = true := by rw [hq, decide_eq_true hy]; rfl
      clear hq
      subst hq' hy
      go_enter Try.func101, Try.ntmps101
      go_wp2
      go_ret
      exact ⟨rfl, rfl⟩
    · have hq' : q = false := by rw [hq, decide_eq_false hy]; rfl
      have hy' : (y == who) = false := by simpa using hy
      clear hq
      subst hq'
      go_enter Try.func101, Try.ntmps101
      go_wp2
      go_ret
      exact ⟨rfl, rfl⟩
/-- What freeing and locking one leave. -/
def LkEnd (w : World) (b g n : Nat) (z h : Nat → Int) (d : Nat → Bool) (v : Value) (e : Ending) (w' : World) : Prop :=
  e = .returned v ∧ LkAt w' b g n z h d ∧ Only (fun k => k = g) w w'
theorem free_one (H : LkAt w b g n z h d) {i : Nat} (hi : i < n) : Calls Try.prog 103 #[.pointer (some ⟨g, i * 3, none⟩)] w (LkEnd w b g n z (upd h i 0) (upd d i false) (.tuple #[])) := by
  obtain ⟨c1, c2, c3, c4, c5⟩ := H.cells hi
  have hs := Lib.hid (H.put i 0 false)
  clear H
  go_enter Try.func103, Try.ntmps103
  go_wp2
  go_end0
  exact ⟨rfl, hs.out, ((Only.refl (fun k => k = g) _).setCell (fun _ => rfl) _).setCell (fun _ => rfl) _⟩
theorem lock_no (H : LkAt w b g n z h d) {i : Int} (hi : i < 0 ∨ n ≤ i) (who : Int) : Calls Try.prog 93 #[.pointer (some ⟨b, 0, none⟩), .int .i64 i, .int .i64 who] w fun e w' => e = .returned (.int .i64 6) ∧ w = w' := by
  have hh := Lib.hid (has_no H.cell hi)
  clear H hi
  go_enter Try.func93, Try.ntmps93
  go_wp2_with (go_at_call 102; refine hh.out.mono ?_; rintro e w' ⟨rfl, rfl⟩)
  go_ret
  exact ⟨rfl, rfl⟩
theorem lock_nil (i who : Int) (w : World) : Calls Try.prog 93 #[.pointer none, .int .i64 i, .int .i64 who] w fun e w' => e = .returned (.int .i64 6) ∧ w = w' := by
  go_enter Try.func93, Try.ntmps93
  go_wp2_with (go_at_call 102; refine (has_nil _ _).mono ?_; rintro e w' ⟨rfl, rfl⟩)
  go_ret
  exact ⟨rfl, rfl⟩
theorem lock_twice (H : LkAt w b g n z h d) {i : Nat} (hi : i < n) (hd : d i = true) (who : Int) : Calls Try.prog 93 #[.pointer (some ⟨b, 0, none⟩), .int .i64 i, .int .i64 who] w fun e w' => e = .returned (.int .i64 10) ∧ w = w' := by
  have hh := Lib.hid (has_yes H.cell hi)
  have c0 := H.cell
  obtain ⟨c1, c2, c3, c4, c5⟩ := H.cells hi
  rw [hd] at c3
  have hi' : (i : Int) < n := by omega
  clear H hd
  go_enter Try.func93, Try.ntmps93
  go_wp2_with (go_at_call 102; refine hh.out.mono ?_; rintro e w' ⟨rfl, rfl⟩)
  go_ret
  exact ⟨rfl, rfl⟩
theorem lock_free (H : LkAt w b g n z h d) {i : Nat} (hi : i < n) (hd : d i = false) (who : Int) : Calls Try.prog 93 #[.pointer (some ⟨b, 0, none⟩), .int .i64 i, .int .i64 who] w (LkEnd w b g n z (upd h i who) (upd d i true) (.int .i64 0)) := by
  have hh := Lib.hid (has_yes H.cell hi)
  have c0 := H.cell
  obtain ⟨c1, c2, c3, c4, c5⟩ := H.cells hi
  rw [hd] at c3
  have hs := Lib.hid (H.put i who true)
  have hi' : (i : Int) < n := by omega
  have hbg := H.ne
  clear H hd
  go_enter Try.func93, Try.ntmps93
  go_upto_region 5 with (go_at_call 102; refine hh.out.mono ?_; rintro e w' ⟨rfl, rfl⟩)
  go_region
  all_goals
    go_wp2
    go_ret
    exact ⟨rfl, hs.out.new (Only.refl (fun _ => False) _).drew, (((Only.refl (fun k => k = g) _).setCell (fun _ => rfl) _).setCell (fun _ => rfl) _).drew⟩
theorem unlock_no (H : LkAt w b g n z h d) {i : Int} (hi : i < 0 ∨ n ≤ i) (who : Int) : Calls Try.prog 94 #[.pointer (some ⟨b, 0, none⟩), .int .i64 i, .int .i64 who] w fun e w' => e = .returned (.int .i64 6) ∧ w = w' := by
  have hh := Lib.hid (has_no H.cell hi)
  clear H hi
  go_enter Try.func94, Try.ntmps94
  go_wp2_with (go_at_call 102; refine hh.out.mono ?_; rintro e w' ⟨rfl, rfl⟩)
  go_ret
  exact ⟨rfl, rfl⟩
theorem unlock_not (H : LkAt w b g n z h d) {i : Nat} (hi : i < n) (who : Int) (hm : mine h d who i = false) : Calls Try.prog 94 #[.pointer (some ⟨b, 0, none⟩), .int .i64 i, .int .i64 who] w fun e w' => e = .returned (.int .i64 8) ∧ w = w' := by
  have hh := Lib.hid (has_yes H.cell hi)
  have hb := Lib.hid (heldby_any H hi who)
  rw [hm] at hb
  have c0 := H.cell
  have hi' : (i : Int) < n := by omega
  clear H hm
  go_enter Try.func94, Try.ntmps94
  go_wp2_with (first | (go_at_call 102; refine hh.out.mono ?_; rintro e w' ⟨rfl, rfl⟩) | (go_at_call 101; refine hb.out.mono ?_; rintro e w' ⟨rfl, rfl⟩))
  go_ret
  exact ⟨rfl, rfl⟩
theorem unlock_mine (H : LkAt w b g n z h d) {i : Nat} (hi : i < n) (who : Int) (hm : mine h d who i = true) : Calls Try.prog 94 #[.pointer (some ⟨b, 0, none⟩), .int .i64 i, .int .i64 who] w (LkEnd w b g n z (upd h i 0) (upd d i false) (.int .i64 0)) := by
  have hh := Lib.hid (has_yes H.cell hi)
  have hb := Lib.hid (heldby_any H hi who)
  have hf := Lib.hid (free_one H hi)
  rw [hm] at hb
  have c0 := H.cell
  have hi' : (i : Int) < n := by omega
  clear H hm
  go_enter Try.func94, Try.ntmps94
  go_wp2_with (first | (go_at_call 102; refine hh.out.mono ?_; rintro e w' ⟨rfl, rfl⟩) | (go_at_call 101; refine hb.out.mono ?_; rintro e w' ⟨rfl, rfl⟩) | (go_at_call 103; refine hf.out.mono ?_; rintro e w2 ⟨rfl, h2, o2⟩; have h2' := Lib.hid h2; have o2' := Lib.hid o2; clear h2 o2))
  go_ret
  exact ⟨rfl, h2'.out, o2'.out⟩
/-- Who holds lock i; 0 where nobody does. -/
def whose (h : Nat → Int) (d : Nat → Bool) (i : Nat) : Int := if d i = true then h i else 0
end
end Lck
end Go.Proofs.Ytdoimkmhincmmaa
