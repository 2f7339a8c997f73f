/- New mailboxes. -/
import Derived.Test.YtjioljfggmhgcaaBoxes
import Derived.Deep.RegionWith
import Derived.Deep.CutRange
import Derived.Deep.DeepCutAuto
namespace Go.Proofs.Ytjioljfggmhgcaa
open Go Go.RowKit RingI

def NewEnd (n : Nat) (z : Nat → Int) (w : World) (e : Ending) (w' : World) : Prop :=
  ∃ b g r, e = .returned (.pointer (some ⟨b, 0, none⟩)) ∧ BoxesAt w' w.heap.size b g n r (fun i => roomN (z i)) (fun _ => none) (fun _ => []) ∧ Only (fun _ => False) w w'

/-- The row, the first k of it laid. -/
def fillP (r : Nat → Nat) (n k : Nat) : List Value := (List.range n).map fun i => if i < k then ptrV r i else .pointer none
theorem fillP_zero (r : Nat → Nat) (n : Nat) : fillP r n 0 = List.replicate n (.pointer none) := by
  unfold fillP
  apply List.ext_getElem?
  intro i
  by_cases h : i < n
  · rw [List.getElem?_map, List.getElem?_range h, List.getElem?_replicate, if_pos h]
    rfl
  · rw [List.getElem?_eq_none (by simp; omega), List.getElem?_eq_none (by simp; omega)]
theorem fillP_all (r : Nat → Nat) (n : Nat) : fillP r n n = ptrs r n := by
  unfold fillP ptrs
  exact List.map_congr_left fun i hi => if_pos (List.mem_range.1 hi)
theorem fillP_next (r : Nat → Nat) (n k x : Nat) (_ : k < n) : (fillP r n k).set k (.pointer (some ⟨x, 0, none⟩)) = fillP (upd r k x) n (k + 1) := by
  unfold fillP
  apply List.ext_getElem?
  intro i
  by_cases h : i < n
  · rw [List.getElem?_set]
    by_cases hik : k = i
    · subst hik
      rw [if_pos rfl, if_pos (by simpa using h), List.getElem?_map, List.getElem?_range h]
      simp [ptrV, upd_self]
    · rw [if_neg hik, List.getElem?_map, List.getElem?_range h, List.getElem?_map, List.getElem?_range h]
      simp only [Option.map_some]
      by_cases h1 : i < k
      · rw [if_pos h1, if_pos (by omega)]
        simp [ptrV, upd_ne r x (fun e => hik e.symm)]
      · rw [if_neg h1, if_neg (by omega)]
  · rw [List.getElem?_eq_none (by simp; omega), List.getElem?_eq_none (by simp; omega)]

/-- What holds on the way: the first k rings are laid. -/
def Part (w : World) (b g n : Nat) (z : Nat → Int) (k : Nat) (wr : World) : Prop :=
  ∃ (r : Nat → Nat) (t : TypeId), wr.heap[b]? = some (.cells #[.slice (some ⟨g, 0, none⟩) n n] t (0, 0)) ∧ wr.heap[g]? = some (.cells (fillP r n k).toArray 41 (0, 0)) ∧
    (∀ i, i < k → RingAt wr (r i) none (roomN (z i)) [] ∧ r i ≠ b ∧ r i ≠ g ∧ w.heap.size ≤ r i) ∧ (∀ i j, i < k → j < k → i ≠ j → r i ≠ r j) ∧ Only (fun _ => False) w wr ∧ w.heap.size ≤ b ∧ w.heap.size ≤ g ∧ b ≠ g

theorem Part.next {w ws w3 : World} {b g n k : Nat} {z : Nat → Int} (h : Part w b g n z k ws) (hk : k < n) (hR : RingAt w3 ws.heap.size none (roomN (z k)) []) (ho : Only (fun _ => False) ws w3) :
    Part w b g n z (k + 1) (w3.setCell ⟨g, k, none⟩ (.pointer (some ⟨ws.heap.size, 0, none⟩))) := by
  obtain ⟨r, t, hb, hg, hr, ha, hO, B1, B2, hbg⟩ := h
  have hb3 := ho.heap hb (fun h => h)
  have hg3 := ho.heap hg (fun h => h)
  have o4 : Only (fun x => x = g) w3 (w3.setCell ⟨g, k, none⟩ (.pointer (some ⟨ws.heap.size, 0, none⟩))) := ((Only.refl (fun x => x = g) w3).setCell (p := ⟨g, k, none⟩) (fun _ => rfl) _)
  have hlt : ∀ i, i < k → r i < ws.heap.size := fun i hi => (hr i hi).1.lt _ (.inl rfl)
  have lb := row_lt hb
  have lg := row_lt hg
  refine ⟨upd r k ws.heap.size, t, o4.heap hb3 hbg, ?_, fun i hi => ?_, fun i j hi hj hij => ?_, (hO.trans' ho).trans o4 (fun x hx e => by subst e; omega), B1, B2, hbg⟩
  · have := row_set hg3 k (.pointer (some ⟨ws.heap.size, 0, none⟩))
    rw [fillP_next r n k _ hk] at this
    exact this
  · by_cases hik : i = k
    · subst hik
      rw [upd_self]
      refine ⟨hR.kept o4 (fun x hx e => ?_), by omega, by omega, hO.size⟩
      rcases hx with rfl | hx
      · omega
      · cases hx
    · rw [upd_ne _ _ hik]
      obtain ⟨c1, c2, c3, c4⟩ := hr i (by omega)
      refine ⟨(c1.kept ho (fun _ _ h => h)).kept o4 (fun x hx e => ?_), c2, c3, c4⟩
      rcases hx with rfl | hx
      · exact c3 e
      · cases hx
  · by_cases hik : i = k
    · subst hik
      rw [upd_self, upd_ne _ _ (fun e => hij e.symm)]
      have := hlt j (by omega)
      omega
    · rw [upd_ne _ _ hik]
      by_cases hjk : j = k
      · subst hjk
        rw [upd_self]
        have := hlt i (by omega)
        omega
      · rw [upd_ne _ _ hjk]
        exact ha i j (by omega) (by omega) hij

theorem Part.done {w ws : World} {b g n : Nat} {z : Nat → Int} (h : Part w b g n z n ws) : NewEnd n z w (.returned (.pointer (some ⟨b, 0, none⟩))) ws := by
  obtain ⟨r, t, hb, hg, hr, ha, hO, B1, B2, hbg⟩ := h
  rw [fillP_all] at hg
  refine ⟨b, g, r, rfl, ⟨⟨t, hb⟩, hg, fun i hi => (hr i hi).1, fun i j hi hj hij k hk hk' => ?_, fun i hi k hk => ?_, B1, B2⟩, hO⟩
  · rcases hk with rfl | hk
    · rcases hk' with hk' | hk'
      · exact ha i j hi hj hij hk'
      · cases hk'
    · cases hk
  · rcases hk with rfl | hk
    · exact (hr i hi).2
    · cases hk

theorem new_boxes (w : World) (A : Option Addr) (n cap : Nat) (z : Nat → Int) (hn : n ≤ 4096) (hA : Row w A n (fun i => .int .i64 (z i))) : Calls Try.prog 6 #[.slice A n cap] w (NewEnd n z w) := by
  have hA' := Lib.hid hA
  clear hA
  have mk1 := fun W0 : World => run_make_list (P := Try.prog) W0 38 41 (.pointer none) 8 Try.underlying38 (by kernel_rfl) rfl n (by omega) (by omega)
  go_enter Try.func6, Try.ntmps6
  go_wp2
  clear mk1
  obtain ⟨g, hg⟩ : ∃ g, g = w.heap.size := ⟨_, rfl⟩
  obtain ⟨b, hb⟩ : ∃ b, b = w.heap.size + 1 := ⟨_, rfl⟩
  have hP : Part w b g n z 0 ((w.alloc (.cells (List.replicate n (.pointer none)).toArray 41)).alloc (.cells #[.slice (some ⟨g, 0, none⟩) n n] 40)) := by
    refine ⟨fun _ => 0, 40, heap_new_at _ _ (by simp [hb]), ?_, fun i hi => absurd hi (by omega), fun i j hi => absurd hi (by omega), ((Only.refl _ w).alloc _).alloc _, by omega, by omega, by omega⟩
    rw [fillP_zero]
    exact heap_kept_alloc (heap_new_at w _ hg.symm) _
  rw [List.toArray_replicate] at hP
  have hP' := Lib.hid hP
  rw [← hb, ← hg]
  clear hP hg hb
  generalize World.alloc _ _ = W0 at hP' ⊢
  go_loopw [13] (fun i wr => ∃ k : Nat, k ≤ n ∧ i = .int .i64 k ∧ Part w b g n z k wr) (fun i _ => n - (intOf i).toNat)
  case atStart => exact ⟨0, Nat.zero_le _, rfl, hP'.out⟩
  case round =>
    obtain ⟨k, hk, rfl, hP⟩ := hrel
    obtain ⟨ws, hws⟩ : ∃ ws : World, ws = wr := ⟨_, rfl⟩
    subst hws
    have hO : Only (fun _ => False) w ws := by obtain ⟨_, _, _, _, _, _, h, _⟩ := hP; exact h
    have hrow := hA'.out.only hO (fun _ h => h.elim)
    have hPk := Lib.hid hP
    clear hP' hP hO
    by_cases hkn : k < n
    · have hkn' : (k : Int) < (n : Int) := by omega
      obtain ⟨ba, off, rfl, hc, _⟩ := hrow k hkn
      replace hc : ws.cell? ⟨ba, off + k, none⟩ = some (.int .i64 (z k)) := hc
      obtain ⟨c0, lg, hu⟩ : ws.cell? ⟨b, 0, none⟩ = some (.slice (some ⟨g, 0, none⟩) n n) ∧ g < ws.heap.size ∧ ∃ u, ws.cell? ⟨g, k, none⟩ = some u := by
        obtain ⟨r, t, h1, h2, _⟩ := hPk.out
        exact ⟨by simp [World.cell?, h1], row_lt h2, _, row_cell h2 (List.getElem?_eq_getElem (show k < (fillP r n k).length by unfold fillP; simpa using hkn))⟩
      obtain ⟨u, hu⟩ := hu
      have hfz : ws.frozen? ⟨g, k, none⟩ = false := by
        obtain ⟨r, t, h1, h2, _⟩ := hPk.out
        exact row_free h2 _
      have hnew : Calls Try.prog 11 #[.int .i64 (roomN (z k))] ws.drew fun e w' => e = .returned (.pointer (some ⟨ws.heap.size, 0, none⟩)) ∧ RingAt w' ws.heap.size none (roomN (z k)) [] ∧ Only (fun _ => False) ws w' :=
        (new_ok (roomN (z k)) ws.drew (by have := roomN_le (z k); omega)).mono fun e w' ⟨h1, h2, h3⟩ => ⟨h1, h2, (Only.refl _ ws).drew.trans' h3⟩
      replace hnew := Lib.hid hnew
      clear hrow
      have hnx := Lib.hid (fun w3 => hPk.out.next hkn (w3 := w3))
      have hk3 : ∀ w3, Only (fun _ => False) ws w3 → w3.cell? ⟨b, 0, none⟩ = some (.slice (some ⟨g, 0, none⟩) n n) ∧ w3.cell? ⟨g, k, none⟩ = some u ∧ w3.frozen? ⟨g, k, none⟩ = false := fun w3 h3 => by
        obtain ⟨r, t, h1, h2, _⟩ := hPk.out
        exact ⟨h3.cell c0 (fun h => h), h3.cell hu (fun h => h), row_free (h3.heap h2 (fun h => h)) _⟩
      have hk3' := Lib.hid hk3
      clear hPk hk3
      go_upto_region 5 with fail
      go_region_with (first | (go_at_call 12; refine (roomOf_any _ _).mono ?_; rintro e w' ⟨rfl, rfl⟩) | (go_at_call 11; refine hnew.out.mono ?_; rintro e w3 ⟨rfl, hR3, ho3⟩; obtain ⟨d0, d1, d2⟩ := hk3'.out w3 ho3; have hn3 := Lib.hid (hnx.out w3 hR3 ho3); clear hR3 ho3))
      all_goals
        go_wp2
        go_roundw
        case rel => exact ⟨k + 1, by omega, by go_num, hn3.out⟩
        case measure => simp [intOf]; omega
    · obtain rfl : k = n := by omega
      go_wp2
      go_ret
      exact hPk.out.done
end Go.Proofs.Ytjioljfggmhgcaa
