/- New counts. -/
import Derived.Test.YtbmpmmfomcnchaaCounts
namespace Go.Proofs.Ytbmpmmfomcnchaa
open Go Go.RowKit

def NewEnd (n : Nat) (z : Nat → Int) (w : World) (e : Ending) (w' : World) : Prop :=
  ∃ b g m, e = .returned (.pointer (some ⟨b, 0, none⟩)) ∧ CountsAt w' b g n (fun _ => 0) m ∧ (∀ i, i < n → m i = mostN (z i)) ∧ w.heap.size ≤ b ∧ w.heap.size ≤ g ∧ Only (fun _ => False) w w'

/-- On the way: the first k have their most. -/
def Part (w : World) (b g n : Nat) (z : Nat → Int) (k : Nat) (wr : World) : Prop :=
  ∃ (m : Nat → Nat) (t : TypeId), wr.heap[b]? = some (.cells #[.slice (some ⟨g, 0, none⟩) n n] t (0, 0)) ∧ wr.heap[g]? = some (.cells (cntCells (fun _ => 0) m n).toArray 56 (0, 0)) ∧
    (∀ i, i < k → m i = mostN (z i)) ∧ Only (fun _ => False) w wr ∧ w.heap.size ≤ b ∧ w.heap.size ≤ g ∧ b ≠ g

theorem Part.next {w ws w3 : World} {b g n k : Nat} {z : Nat → Int} (h : Part w b g n z k ws) (hw : Only (fun _ => False) ws w3) :
    Part w b g n z (k + 1) (w3.setCell ⟨g, k * 2 + 1, none⟩ (.int .i64 (mostN (z k)))) := by
  obtain ⟨m, t, hb, hg, hm, hO, B1, B2, hbg⟩ := h
  refine ⟨upd m k (mostN (z k)), t, heap_kept_set (hw.heap hb (fun h => h)) hbg _, ?_, fun i hi => ?_, (hO.trans' hw).setCell (p := ⟨g, k * 2 + 1, none⟩) (fun hp => by simp at hp; omega) _, B1, B2, hbg⟩
  · rw [← cntCells_setM]
    exact row_set (hw.heap hg (fun h => h)) _ _
  · by_cases hik : i = k
    · subst hik
      rw [upd_self]
    · rw [upd_ne _ _ hik]
      exact hm i (by omega)
theorem Part.done {w ws : World} {b g n : Nat} {z : Nat → Int} (h : Part w b g n z n ws) : NewEnd n z w (.returned (.pointer (some ⟨b, 0, none⟩))) ws := by
  obtain ⟨m, t, hb, hg, hm, hO, B1, B2, hbg⟩ := h
  refine ⟨b, g, m, rfl, ⟨⟨t, hb⟩, hg, fun i hi => ?_, hbg⟩, hm, B1, B2, hO⟩
  have := mostN_le (z i)
  have := hm i hi
  omega

theorem run_make_counts (w : World) (n : Nat) (hn : n ≤ 4096) : (Instr.makeSlice 51 (.int .i64 (n : Int)) (.int .i64 (n : Int))).run Try.prog w = .ok (.slice (some ⟨w.heap.size, 0, none⟩) n n) (w.alloc (.cells (cntCells (fun _ => 0) (fun _ => 0) n).toArray 56)) := by
  have hinfo : (Try.prog.info? 56).map (fun i => (i.zero, i.size, i.bytes)) = some (some (.agg #[.int .i64 0, .int .i64 0]), 2, 16) := by kernel_rfl
  obtain ⟨i, hi, hzz⟩ := Option.map_eq_some_iff.1 hinfo
  simp only [Prod.mk.injEq] at hzz
  obtain ⟨hz, hs, hb⟩ := hzz
  have hr := run_make (P := Try.prog) w 51 56 i _ Try.underlying51 hi hz .i64 .i64 n n (by omega) (Int.le_refl _) (by rw [hb]; omega) (by omega)
  simp only [Int.toNat_natCast, hs] at hr
  rw [hr]
  have : madeCells (Value.agg #[Value.int .i64 0, Value.int .i64 0]).cells (n * 2) = (cntCells (fun _ => 0) (fun _ => 0) n).toArray := by
    show madeCells #[Value.int .i64 0, Value.int .i64 0] (n * 2) = _
    unfold madeCells cntCells
    apply Array.ext_getElem?
    intro j
    simp only [Array.getElem?_map, Array.getElem?_range, List.getElem?_toArray, List.getElem?_map]
    by_cases h : j < n * 2
    · rw [if_pos h, List.getElem?_range h]
      have : j % 2 = 0 ∨ j % 2 = 1 := by omega
      rcases this with h2 | h2 <;> simp [cntCell, h2]
    · rw [if_neg h, List.getElem?_eq_none (by simp; omega)]
      rfl
  rw [this]

theorem new_counts (w : World) (A : Option Addr) (n cap : Nat) (z : Nat → Int) (hn : n ≤ 4096) (hA : Row w A n (fun i => .int .i64 (z i))) : Calls Try.prog 15 #[.slice A n cap] w (NewEnd n z w) := by
  have hA' := Lib.hid hA
  clear hA
  have mk1 := fun W0 : World => run_make_counts W0 n hn
  go_enter Try.func15, Try.ntmps15
  go_wp2
  clear mk1
  obtain ⟨g, hg⟩ : ∃ g, g = w.heap.size := ⟨_, rfl⟩
  obtain ⟨b, hb⟩ : ∃ b, b = w.heap.size + 1 := ⟨_, rfl⟩
  have hP : Part w b g n z 0 ((w.alloc (.cells (cntCells (fun _ => 0) (fun _ => 0) n).toArray 56)).alloc (.cells #[.slice (some ⟨g, 0, none⟩) n n] 53)) := by
    refine ⟨fun _ => 0, 53, heap_new_at _ _ (by simp [hb]), ?_, fun i hi => absurd hi (by omega), ((Only.refl _ w).alloc _).alloc _, by omega, by omega, by omega⟩
    exact heap_kept_alloc (heap_new_at w _ hg.symm) _
  have hP' := Lib.hid hP
  rw [← hb, ← hg]
  clear hP hg hb
  generalize World.alloc _ _ = W0 at hP' ⊢
  go_loopw [13] (fun i wr => ∃ k : Nat, k ≤ n ∧ i = .int .i64 k ∧ Part w b g n z k wr) (fun i _ => n - (intOf i).toNat)
  case atStart => exact ⟨0, Nat.zero_le _, rfl, hP'.out⟩
  case round =>
    obtain ⟨k, hk, rfl, hP⟩ := hrel
    obtain ⟨ws, hws⟩ : ∃ ws : World, ws = wr := ⟨_, rfl⟩
    subst hws
    have hO : Only (fun _ => False) w ws := by obtain ⟨_, _, _, _, _, h, _⟩ := hP; exact h
    have hrow := hA'.out.only hO (fun _ h => h.elim)
    have hPk := Lib.hid hP
    clear hP' hP hO
    by_cases hkn : k < n
    · have hkn' : (k : Int) < (n : Int) := by omega
      obtain ⟨ba, off, rfl, hc, _⟩ := hrow k hkn
      replace hc : ws.cell? ⟨ba, off + k, none⟩ = some (.int .i64 (z k)) := hc
      obtain ⟨c0, lg, ⟨u, hu⟩, hfz⟩ : ws.cell? ⟨b, 0, none⟩ = some (.slice (some ⟨g, 0, none⟩) n n) ∧ g < ws.heap.size ∧ (∃ u, ws.cell? ⟨g, k * 2 + 1, none⟩ = some u) ∧ ws.frozen? ⟨g, k * 2 + 1, none⟩ = false := by
        obtain ⟨m, t, h1, h2, _⟩ := hPk.out
        exact ⟨by simp [World.cell?, h1], row_lt h2, ⟨_, row_cell h2 (cntCells_most _ _ hkn)⟩, row_free h2 _⟩
      clear hrow
      have hnx := Lib.hid (fun j => hPk.out.next ((Only.refl (fun _ => False) ws).drewN j))
      clear hPk
      have hm := mostOf_any (z k)
      obtain ⟨M, hM⟩ : ∃ M : Int, M = (mostN (z k) : Int) := ⟨_, rfl⟩
      rw [← hM] at hm hnx
      have hm' := Lib.hid hm
      clear hM hm
      go_upto_region 5 with fail
      go_region_with (go_at_call 24; refine (hm'.out _).mono ?_; rintro e w' ⟨rfl, rfl⟩)
      all_goals
        go_wp2
        go_roundw
        case rel => exact ⟨k + 1, by omega, by go_num, hnx.out _⟩
        case measure => simp [intOf]; omega
    · obtain rfl : k = n := by omega
      go_wp2
      go_ret
      exact hPk.out.done
end Go.Proofs.Ytbmpmmfomcnchaa
