/- New locks; what is held, its level; freeing all. -/
import Derived.Test.YtdoimkmhincmmaaLkLocks
namespace Go.Proofs.Ytdoimkmhincmmaa
namespace Lck
open Lin Go Go.RowKit

theorem info3 : (Try.prog.info? 3).map (fun i => (i.zero, i.size, i.bytes)) = some (some (.int .i64 0), 1, 8) := by kernel_rfl
theorem cell_one_new (w : World) (v : Value) (e : TypeId) : ∀ j u, [v][j]? = some u → (w.alloc (.cells #[v] e)).cell? ((⟨w.heap.size, 0, none⟩ : Addr).add j) = some u := by
  intro j u hu
  rw [Addr.add_lit, Nat.zero_add]
  exact row_cell (L := [v]) (heap_new_at w _ rfl) hu

/-! ### New -/
theorem run_make_locks (w : World) (n : Nat) (hn : n ≤ 4096) : (Instr.makeSlice 110 (.int .i64 (n : Int)) (.int .i64 (n : Int))).run Try.prog w = .ok (.slice (some ⟨w.heap.size, 0, none⟩) n n) (w.alloc (.cells (lkCells (fun _ => 0) (fun _ => 0) (fun _ => false) n).toArray 114)) := by
  have hinfo : (Try.prog.info? 114).map (fun i => (i.zero, i.size, i.bytes)) = some (some (.agg #[.int .i64 0, .int .i64 0, .bool false]), 3, 24) := by kernel_rfl
  obtain ⟨i, hi, hzz⟩ := Option.map_eq_some_iff.1 hinfo
  simp only [Prod.mk.injEq] at hzz
  obtain ⟨hz, hs, hb⟩ := hzz
  have hr := run_make (P := Try.prog) w 110 114 i _ Try.underlying110 hi hz .i64 .i64 n n (by omega) (Int.le_refl _) (by rw [hb]; omega) (by omega)
  simp only [Int.toNat_natCast, hs] at hr
  rw [hr]
  have : madeCells (Value.agg #[Value.int .i64 0, Value.int .i64 0, Value.bool false]).cells (n * 3) = (lkCells (fun _ => 0) (fun _ => 0) (fun _ => false) n).toArray := by
    show madeCells #[Value.int .i64 0, Value.int .i64 0, Value.bool false] (n * 3) = _
    unfold madeCells lkCells
    apply Array.ext_getElem?
    intro j
    simp only [Array.getElem?_map, Array.getElem?_range, List.getElem?_toArray, List.getElem?_map]
    by_cases h : j < n * 3
    · rw [if_pos h, List.getElem?_range h]
      have : j % 3 = 0 ∨ j % 3 = 1 ∨ j % 3 = 2 := by omega
      rcases this with h2 | h2 | h2 <;> simp [lkCell, h2]
    · rw [if_neg h, List.getElem?_eq_none (by simp; omega)]
      rfl
  rw [this]

def NewEnd (n : Nat) (z : Nat → Int) (w : World) (e : Ending) (w' : World) : Prop :=
  e = .returned (.pointer (some ⟨w.heap.size + 1, 0, none⟩)) ∧ LkAt w' (w.heap.size + 1) w.heap.size n z (fun _ => 0) (fun _ => false) ∧ Only (fun _ => False) w w'
/-- On the way: the first k have their ceilings. -/
def Part (w : World) (b g n : Nat) (z : Nat → Int) (k : Nat) (wr : World) : Prop :=
  ∃ zz : Nat → Int, LkAt wr b g n zz (fun _ => 0) (fun _ => false) ∧ (∀ i, i < k → zz i = z i) ∧ Only (fun _ => False) w wr ∧ b = w.heap.size + 1 ∧ g = w.heap.size
theorem Part.next {w ws : World} {b g n k : Nat} {z : Nat → Int} (H : Part w b g n z k ws) : Part w b g n z (k + 1) (ws.setCell ⟨g, k * 3, none⟩ (.int .i64 (z k))) := by
  obtain ⟨zz, ⟨⟨t, h1⟩, h2, h4⟩, hz, hO, B1, B2⟩ := H
  refine ⟨upd zz k (z k), ⟨⟨t, heap_kept_set h1 h4 _⟩, ?_, h4⟩, fun i hi => ?_, hO.setCell (p := ⟨g, k * 3, none⟩) (fun hp => by simp at hp; omega) _, B1, B2⟩
  · rw [← lkCells_setZ]
    exact row_set h2 _ _
  · by_cases hik : i = k
    · subst hik
      rw [upd_self]
    · rw [upd_ne _ _ hik]
      exact hz i (by omega)
theorem Part.done {w ws : World} {b g n : Nat} {z : Nat → Int} (H : Part w b g n z n ws) : NewEnd n z w (.returned (.pointer (some ⟨b, 0, none⟩))) ws := by
  obtain ⟨zz, h1, hz, hO, rfl, rfl⟩ := H
  exact ⟨rfl, h1.congr (fun i hi => ⟨hz i hi, rfl, rfl⟩), hO⟩
theorem new_any (w : World) (A : Option Addr) (n cap : Nat) (z : Nat → Int) (hn : n ≤ 4096) (hA : Row w A n (fun i => .int .i64 (z i))) : Calls Try.prog 78 #[.slice A n cap] w (NewEnd n z w) := by
  have hA' := Lib.hid hA
  clear hA
  have mk1 := fun W0 : World => run_make_locks W0 n hn
  go_enter Try.func78, Try.ntmps78
  go_wp2
  clear mk1
  obtain ⟨g, hg⟩ : ∃ g, g = w.heap.size := ⟨_, rfl⟩
  obtain ⟨b, hb⟩ : ∃ b, b = w.heap.size + 1 := ⟨_, rfl⟩
  have hP : Part w b g n z 0 ((w.alloc (.cells (lkCells (fun _ => 0) (fun _ => 0) (fun _ => false) n).toArray 114)).alloc (.cells #[.slice (some ⟨g, 0, none⟩) n n] 112)) := by
    refine ⟨fun _ => 0, ⟨⟨112, heap_new_at _ _ (by simp [hb])⟩, ?_, by omega⟩, fun i hi => absurd hi (by omega), ((Only.refl _ w).alloc _).alloc _, hb, hg⟩
    exact heap_kept_alloc (heap_new_at w _ hg.symm) _
  have hP' := Lib.hid hP
  rw [← hb, ← hg]
  clear hP hg hb
  generalize World.alloc _ _ = W0 at hP' ⊢
  go_loopw [13] (fun i wr => ∃ k : Nat, k ≤ n ∧ i = .int .i64 k ∧ Part w b g n z k wr) (fun i _ => n - (intOf i).toNat)
  case atStart => exact ⟨0, Nat.zero_le _, rfl, hP'.out⟩
  case round =>
    obtain ⟨k, hk, rfl, hP⟩ := hrel
    obtain ⟨ws, hws⟩ : ∃ ws : World, ws = wr := ⟨_, rfl⟩
    subst hws
    have hO : Only (fun _ => False) w ws := by obtain ⟨_, _, _, h, _⟩ := hP; exact h
    have hrow := hA'.out.only hO (fun _ h => h.elim)
    have hPk := Lib.hid hP
    clear hP' hP hO
    by_cases hkn : k < n
    · have hkn' : (k : Int) < (n : Int) := by omega
      obtain ⟨ba, off, rfl, hc, _⟩ := hrow k hkn
      replace hc : ws.cell? ⟨ba, off + k, none⟩ = some (.int .i64 (z k)) := hc
      obtain ⟨c0, hz3, hfz⟩ : ws.cell? ⟨b, 0, none⟩ = some (.slice (some ⟨g, 0, none⟩) n n) ∧ (∃ u, ws.cell? ⟨g, k * 3, none⟩ = some u) ∧ ws.frozen? ⟨g, k * 3, none⟩ = false := by
        obtain ⟨zz, h1, _⟩ := hPk.out
        exact ⟨h1.cell, ⟨_, (h1.cells hkn).1⟩, row_free h1.row _⟩
      obtain ⟨u, hu⟩ := hz3
      clear hrow
      have hnx := Lib.hid hPk.out.next
      clear hPk
      go_wp2
      go_roundw
      case rel => exact ⟨k + 1, by omega, by go_num, hnx.out⟩
      case measure => simp [intOf]; omega
    · obtain rfl : k = n := by omega
      go_wp2
      go_ret
      exact hPk.out.done

/-! ### Held -/
/-- Those of the first n that p holds of. -/
def pick (p : Nat → Bool) (n : Nat) : List Nat := (List.range n).filter p
theorem pick_yes {p : Nat → Bool} {n : Nat} (h : p n = true) : pick p (n + 1) = pick p n ++ [n] := by
  unfold pick
  rw [List.range_succ, List.filter_append]
  simp [h]
theorem pick_no {p : Nat → Bool} {n : Nat} (h : p n = false) : pick p (n + 1) = pick p n := by
  unfold pick
  rw [List.range_succ, List.filter_append]
  simp [h]
theorem pick_len (p : Nat → Bool) (n : Nat) : (pick p n).length ≤ n := by
  unfold pick
  exact Nat.le_trans (List.length_filter_le _ _) (by simp)
theorem pick_mem {p : Nat → Bool} {n i : Nat} : i ∈ pick p n ↔ i < n ∧ p i = true := by
  unfold pick
  simp
theorem pick_step (p : Nat → Bool) (k n : Nat) (h : k ≤ n) : ∃ r, pick p n = pick p k ++ r := by
  induction n with
  | zero => exact ⟨[], by
    obtain rfl : k = 0 := (by omega)
    simp⟩
  | succ n ih =>
    by_cases hk : k = n + 1
    · subst hk
      exact ⟨[], by simp⟩
    · obtain ⟨r, hr⟩ := ih (by omega)
      cases hp : p n with
      | true => exact ⟨r ++ [n], by rw [pick_yes hp, hr, List.append_assoc]⟩
      | false => exact ⟨r, by rw [pick_no hp, hr]⟩
/-- The next one that p holds of stands behind those ahead of it. -/
theorem pick_at {p : Nat → Bool} {k n : Nat} (h : k < n) (hp : p k = true) : (pick p n)[(pick p k).length]? = some k := by
  obtain ⟨r, hr⟩ := pick_step p (k + 1) n (by omega)
  rw [hr, pick_yes hp, List.append_assoc, List.getElem?_append_right (Nat.le_refl _)]
  simp
theorem pick_congr {p q : Nat → Bool} {n : Nat} (h : ∀ i, i < n → p i = q i) : pick p n = pick q n := by
  unfold pick
  apply List.filter_congr
  intro i hi
  exact h i (by simpa using hi)

def intV (l : List Nat) : List Value := l.map fun i : Nat => .int .i64 (i : Int)
def HeldEnd (w : World) (l : List Nat) (e : Ending) (w' : World) : Prop :=
  ∃ v h', e = .returned v ∧ Win w' 3 1 v h' l.length (intV l) ∧ (∀ q, h' = some q → w.heap.size ≤ q) ∧ Only (fun _ => False) w w'
/-- On the way: the list of the first k. -/
def Lst (w : World) (p : Nat → Bool) (k : Nat) (v : Value) (wr : World) : Prop :=
  ∃ h', Win wr 3 1 v h' (pick p k).length (intV (pick p k)) ∧ (∀ q, h' = some q → w.heap.size ≤ q) ∧ Only (fun _ => False) w wr
end Lck
end Go.Proofs.Ytdoimkmhincmmaa
