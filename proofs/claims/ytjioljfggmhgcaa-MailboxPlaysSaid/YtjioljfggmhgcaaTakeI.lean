/- A ring that grows and is put into; taking (elements: Int). No conditions beside each theorem's own. -/
import Derived.Test.YtjioljfggmhgcaaLayI
namespace Go.Proofs.Ytjioljfggmhgcaa.RingI
open Go.RowKit

theorem RingAt.same {w w' : World} {r : Nat} {o : Option Nat} {room : Nat} {q : List Int} (h : RingAt w r o room q) (e : w'.heap = w.heap) : RingAt w' r o room q := by
  unfold RingAt at *
  rw [e]
  exact h
theorem sv_cell {w : World} {r : Nat} {o : Option Nat} {room : Nat} {q : List Int} (h : RingAt w r o room q) : ∃ n, w.cell? ⟨r, 0, none⟩ = some (sv o n) ∧ q.length ≤ n ∧ n ≤ room := by
  obtain ⟨t, first, L, hr, h1, h2, h3⟩ := h
  exact ⟨L.length, by simp [World.cell?, hr], h3.le, h3.fits⟩

theorem grow_any {w : World} {r room : Nat} {o : Option Nat} {q : List Int} (hR : RingAt w r o room q) (hc : w.cell? ⟨r, 0, none⟩ = some (sv o q.length)) (hlt : q.length < room) :
    Calls Try.prog 19 #[.pointer (some ⟨r, 0, none⟩)] w (Grown w r room q) := by
  cases o with
  | none => exact grow_none hR hlt
  | some g => exact grow_some hR hc hlt

theorem put_grow {w : World} {r room : Nat} {o : Option Nat} {q : List Int} (hR : RingAt w r o room q) (hc : w.cell? ⟨r, 0, none⟩ = some (sv o q.length)) (hlt : q.length < room) (x : Int) :
    Calls Try.prog 15 #[.pointer (some ⟨r, 0, none⟩), mk x] w (PutEnd w r o room q x) := by
  obtain ⟨t, first, L, hr, h1, h2, h3⟩ := id hR
  have hm := h3.most
  obtain ⟨k, hk⟩ : ∃ k, k = q.length := ⟨_, rfl⟩
  rw [← hk] at hr hlt hc
  have c2 : w.cell? ⟨r, 2, none⟩ = some (.int .i64 k) := by simp [World.cell?, hr]
  have c3 : w.cell? ⟨r, 3, none⟩ = some (.int .i64 room) := by simp [World.cell?, hr]
  have hlen : ∃ a, sv o k = .slice a k k := by
    cases o with
    | none =>
      have : k = 0 := by have := h3.le; rw [h1 rfl] at this; have e : ([] : List Int).length = 0 := rfl; omega
      subst this
      exact ⟨none, rfl⟩
    | some g => exact ⟨some ⟨g, 0, none⟩, rfl⟩
  obtain ⟨a, ha⟩ := hlen
  rw [ha] at hc
  have hkr : ¬ (room : Int) ≤ (k : Int) := by omega
  have hkk : ((k : Int) == (k : Int)) = true := by simp
  have hwr : IntKind.i64.wrap ((k : Int) + 1) = (k : Int) + 1 := IntWalk.i64_in _ (by omega)
  have hgrow : ∀ W : World, W.heap = w.heap → Calls Try.prog 19 #[.pointer (some ⟨r, 0, none⟩)] W (Grown W r room q) := fun W hW =>
    grow_any (hR.same hW) ((cell_of_heap hW _).trans (by rw [hc, ← ha, hk])) (by omega)
  have hgrow' := Lib.hid hgrow
  have hk' := Lib.hid hk
  have hR' := Lib.hid hR
  clear hr h1 h2 h3 hk hR ha hgrow
  unfold mk
  go_enter Try.func15, Try.ntmps15
  go_wp2
  go_quiet (fail)
  go_wp2
  go_quiet (fail)
  go_wp2_with fail
  refine (hgrow'.out (w.drewN _) rfl).mono ?_
  rintro e W ⟨rfl, ⟨t, first, L, hr, h1, h2, h3⟩, ⟨n, hkn1, hc0⟩, hoW⟩
  have hBr : w.heap.size = w.heap.size := rfl
  obtain ⟨g, hg0⟩ : ∃ g, g = w.heap.size := ⟨_, rfl⟩
  change W.heap[r]? = some (.cells #[sv (some w.heap.size) L.length, _, _, _] t (0, 0)) at hr
  change W.cell? _ = some (.slice (some ⟨w.heap.size, 0, none⟩) n n) at hc0
  obtain ⟨hgr, hg, hpos⟩ := h2 _ rfl
  change w.heap.size ≠ r at hgr
  change W.heap[w.heap.size]? = _ at hg
  rw [← hg0] at hr hc0 hgr hg
  have hfits := h3.fits
  have hn : n = L.length := by
    have e : W.cell? ⟨r, 0, none⟩ = some (sv (some g) L.length) := by simp [World.cell?, hr]
    rw [hc0] at e
    simpa [sv] using e
  simp only [sv] at hr
  rw [← hn, ← hk'.out] at hr
  rw [← hk'.out] at hkn1
  rw [← hn] at hfits
  have hf : first < n := by
    rcases h3.place with h | ⟨rfl, _⟩
    · rw [hn]; exact h
    · simp at hpos
  have c1 : W.cell? ⟨r, 1, none⟩ = some (.int .i64 first) := by simp [World.cell?, hr]
  have c2' : W.cell? ⟨r, 2, none⟩ = some (.int .i64 k) := by simp [World.cell?, hr]
  have f2 : W.frozen? ⟨r, 2, none⟩ = false := by simp [World.frozen?, hr]
  have hj : (first + k) % n < n := Nat.mod_lt _ (by omega)
  obtain ⟨j, hj'⟩ : ∃ j, j = (first + k) % n := ⟨_, rfl⟩
  obtain ⟨u, hu⟩ : ∃ u, W.cell? ⟨g, j, none⟩ = some u := by
    exact ⟨(L.map mk)[j]'(by simp; omega), row_cell hg (List.getElem?_eq_getElem _)⟩
  have fg : W.frozen? ⟨g, j, none⟩ = false := row_free hg _
  have hslot : ∀ W' : World, W'.heap = W.heap → Calls Try.prog 18 #[.pointer (some ⟨r, 0, none⟩), .int .i64 k] W' fun e w' => e = .returned (.int .i64 (j : Int)) ∧ ∃ m, w' = W'.drewN m := by
    intro W' hW
    rw [hj']
    exact slot_any ((cell_of_heap hW _).trans hc0) ((cell_of_heap hW _).trans c1) (by omega) (by omega) hf (by omega)
  rw [← hj'] at hj
  have hjn : (j : Int) < (n : Int) := by omega
  have hend := put_end x hn hk'.out hkn1 (w := W) hr hgr hg h3
  rw [← hj'] at hend
  have hend' := Lib.hid hend
  have hslot' := Lib.hid hslot
  have hrg : ¬ r = g := fun e => hgr e.symm
  have hn' := Lib.hid hn
  have hj'' := Lib.hid hj'
  have hoW' := Lib.hid hoW
  have hg0' := Lib.hid hg0
  clear hr h1 h2 h3 hg hend hslot hn hj' hoW hBr hg0 c2 c3 hc
  go_wp2
  refine wp_region_quiet_tail_lit 12 (by kernel_rfl) (by kernel_rfl) ?_
  simp only [List.take_succ_cons, List.take_zero, List.drop_succ_cons, List.drop_zero]
  repeat (go_big_quiet_step ((go_at_call 18; exact Calls.quiet_of (hslot'.out _ rfl))))
  refine wpQuiet_nil ?_
  rintro _ ⟨nq3, rfl⟩
  go_wp2
  go_ret
  refine ⟨rfl, some g, hend'.out, .inr (by rw [hg0'.out]), ?_⟩
  have hoW1 : Only (fp r o) w W := ⟨hoW'.out.os, hoW'.out.tape, hoW'.out.output, hoW'.out.size, fun k hk hs => hoW'.out.block k hk (fun e => hs (.inl e))⟩
  exact ((hoW1.drewN _).setCell (fun h => by have := hg0'.out; exact absurd h (by show ¬ g < _; omega)) _).setCell (fun _ => .inl rfl) _

theorem put_any {w : World} {r room : Nat} {o : Option Nat} {q : List Int} (hR : RingAt w r o room q) (hlt : q.length < room) (x : Int) :
    Calls Try.prog 15 #[.pointer (some ⟨r, 0, none⟩), mk x] w (PutEnd w r o room q x) := by
  obtain ⟨n, hc, hle, hroom⟩ := sv_cell hR
  by_cases h : q.length = n
  · rw [← h] at hc
    exact put_grow hR hc hlt x
  · cases o with
    | none =>
      obtain ⟨t, first, L, hr, h1, h2, h3⟩ := hR
      have : q.length = 0 := by have := h3.le; rw [h1 rfl] at this; simpa using this
      exact put_grow ⟨t, first, L, hr, h1, h2, h3⟩ (by rw [this]; simp [World.cell?, hr, sv]) hlt x
    | some g => exact put_room hR hc (by omega) x

theorem take_nil (w : World) : Calls Try.prog 14 #[.pointer none] w fun e w' => e = .returned (.tuple #[Value.int .i64 0, .int .i64 8]) ∧ w' = w := by
  go_enter Try.func14, Try.ntmps14
  go_wp2_with (go_at_call 17; refine (first_nil _).mono ?_; rintro e w' ⟨rfl, rfl⟩)
  go_ret2
  exact ⟨rfl, rfl⟩
theorem take_none {w : World} {r room : Nat} {o : Option Nat} (hR : RingAt w r o room []) : Calls Try.prog 14 #[.pointer (some ⟨r, 0, none⟩)] w fun e w' => e = .returned (.tuple #[Value.int .i64 0, .int .i64 8]) ∧ w' = w := by
  go_enter Try.func14, Try.ntmps14
  go_wp2_with (go_at_call 17; refine (first_none hR).mono ?_; rintro e w' ⟨rfl, rfl⟩)
  go_ret2
  exact ⟨rfl, rfl⟩

/-- What taking leaves: the others. -/
def TakeEnd (w : World) (r : Nat) (o : Option Nat) (room : Nat) (q : List Int) (x : Int) (e : Ending) (w' : World) : Prop :=
  e = .returned (.tuple #[mk x, .int .i64 0]) ∧ RingAt w' r o room q ∧ Only (fp r o) w w'

theorem take_end {w : World} {r g room first n k j : Nat} {x : Int} {q : List Int} {t : TypeId} {L : List Int} (z : Int) (hn : n = L.length) (hk : k = (x :: q).length) (hj : j = (first + 1) % n)
    (hr : w.heap[r]? = some (.cells #[.slice (some ⟨g, 0, none⟩) n n, .int .i64 first, .int .i64 k, .int .i64 room] t (0, 0))) (hgr : g ≠ r) (hg : w.heap[g]? = some (.cells (L.map mk).toArray 3 (0, 0))) (h3 : Laid L first room (x :: q)) :
    RingAt (((w.setCell ⟨g, first, none⟩ (mk z)).setCell ⟨r, 1, none⟩ (.int .i64 j)).setCell ⟨r, 2, none⟩ (.int .i64 ((k : Int) - 1))) r (some g) room q := by
  subst hn
  subst hk
  have h1 : (w.setCell ⟨g, first, none⟩ (mk z)).heap[r]? = _ := (Below.heap_setCell w ⟨g, first, none⟩ (mk z) r (fun e => hgr e.symm)).trans hr
  have h2 := heap_setCell_same _ r 1 _ t (.int .i64 j) h1
  have h3' := heap_setCell_same _ r 2 _ t (.int .i64 (((x :: q).length : Int) - 1)) h2
  have hg2 := row_set hg first (mk z)
  have hle := h3.le
  have hpos : 0 < L.length := Nat.lt_of_lt_of_le (by simp) hle
  have hf : first < L.length := by
    rcases h3.place with h | ⟨rfl, _⟩
    · exact h
    · simp at hpos
  refine ⟨t, j, L.set first z, ?_, (fun h => by cases h), ?_, ?_⟩
  · rw [h3']
    simp [sv]
  · rintro g' hg'
    cases hg'
    refine ⟨hgr, ?_, by simp; omega⟩
    rw [Below.heap_setCell _ _ _ _ (by exact hgr), Below.heap_setCell _ _ _ _ (by exact hgr), hg2]
    simp [List.map_set]
  · subst hj
    refine ⟨by simp at hle ⊢; omega, by simpa using h3.fits, h3.most, .inl (by simpa using Nat.mod_lt _ hpos), fun i hi => ?_⟩
    simp only [List.length_set]
    rw [List.getElem?_set]
    have hi' : i + 1 < L.length := by simp at hle; omega
    have e : ((first + 1) % L.length + i) % L.length = (first + (i + 1)) % L.length := by rw [Nat.mod_add_mod]; congr 1; omega
    rw [e, if_neg ?_, h3.at_ (i + 1) (by simpa using hi)]
    · simp
    · have e2 : (first + (i + 1)) % L.length = if first + (i + 1) < L.length then first + (i + 1) else first + (i + 1) - L.length := by
        split
        · rw [Nat.mod_eq_of_lt (by omega)]
        · rw [Nat.mod_eq_sub_mod (by omega), Nat.mod_eq_of_lt (by omega)]
      rw [e2]
      split <;> omega

theorem take_some {w : World} {r room : Nat} {o : Option Nat} {x : Int} {q : List Int} (hR : RingAt w r o room (x :: q)) :
    Calls Try.prog 14 #[.pointer (some ⟨r, 0, none⟩)] w (TakeEnd w r o room q x) := by
  obtain ⟨g, rfl⟩ : ∃ g, o = some g := by
    obtain ⟨g, _, _, h, _⟩ := hR.slot
    exact ⟨g, h⟩
  obtain ⟨t, first, L, hr, h1, h2, h3⟩ := id hR
  obtain ⟨hgr, hg, hpos⟩ := h2 g rfl
  have hm := h3.most
  have hfits := h3.fits
  obtain ⟨n, hn⟩ : ∃ n, n = L.length := ⟨_, rfl⟩
  obtain ⟨k, hk⟩ : ∃ k, k = (x :: q).length := ⟨_, rfl⟩
  simp only [sv] at hr
  rw [← hn, ← hk] at hr
  rw [← hn] at hfits hpos
  have hk0 : 0 < k := by rw [hk]; simp
  have hkn : k ≤ n := by rw [hk, hn]; exact h3.le
  have hf : first < n := by
    rcases h3.place with h | ⟨rfl, _⟩
    · rw [hn]; exact h
    · simp at hn; omega
  have c0 : w.cell? ⟨r, 0, none⟩ = some (.slice (some ⟨g, 0, none⟩) n n) := by simp [World.cell?, hr]
  have c1 : w.cell? ⟨r, 1, none⟩ = some (.int .i64 first) := by simp [World.cell?, hr]
  have c2 : w.cell? ⟨r, 2, none⟩ = some (.int .i64 k) := by simp [World.cell?, hr]
  have f1 : w.frozen? ⟨r, 1, none⟩ = false := by simp [World.frozen?, hr]
  have f2 : w.frozen? ⟨r, 2, none⟩ = false := by simp [World.frozen?, hr]
  obtain ⟨u, hu⟩ : ∃ u, w.cell? ⟨g, first, none⟩ = some u := by
    exact ⟨(L.map mk)[first]'(by simp; omega), row_cell hg (List.getElem?_eq_getElem _)⟩
  have fg : w.frozen? ⟨g, first, none⟩ = false := row_free hg _
  have hrg : ¬ r = g := fun e => hgr e.symm
  have hfn : (first : Int) < (n : Int) := by omega
  have hwr : IntKind.i64.wrap ((k : Int) - 1) = (k : Int) - 1 := IntWalk.i64_in _ (by omega)
  obtain ⟨j, hj⟩ : ∃ j, j = (first + 1) % n := ⟨_, rfl⟩
  have hslot : ∀ W : World, W.cell? ⟨r, 0, none⟩ = some (.slice (some ⟨g, 0, none⟩) n n) → W.cell? ⟨r, 1, none⟩ = some (.int .i64 first) → Calls Try.prog 18 #[.pointer (some ⟨r, 0, none⟩), .int .i64 1] W fun e w' => e = .returned (.int .i64 (j : Int)) ∧ ∃ m, w' = W.drewN m := by
    intro W h0 h1
    rw [hj]
    exact slot_any h0 h1 (i := 1) (by omega) (by omega) hf (by omega)
  have hfirst := first_some hR
  have hend := take_end (0) hn hk hj (w := w) hr hgr hg h3
  have hend' := Lib.hid hend
  have hslot' := Lib.hid hslot
  have hfirst' := Lib.hid hfirst
  have hn' := Lib.hid hn
  have hk' := Lib.hid hk
  have hj' := Lib.hid hj
  clear hr h1 h2 h3 hg hend hslot hn hk hj hR hfirst
  unfold TakeEnd
  unfold mk at hfirst' ⊢
  go_enter Try.func14, Try.ntmps14
  go_wp2_with (go_at_call 17; refine hfirst'.out.mono ?_; rintro e _ ⟨rfl, m, rfl⟩)
  refine wp_region_quiet_tail_lit 10 (by kernel_rfl) (by kernel_rfl) ?_
  simp only [List.take_succ_cons, List.take_zero, List.drop_succ_cons, List.drop_zero]
  repeat (go_big_quiet_step (fail))
  refine wpQuiet_nil ?_
  rintro _ ⟨nq3, rfl⟩
  go_wp2_with (go_at_call 18; refine (hslot'.out _ (by simp [*, go_sem]) (by simp [*, go_sem])).mono ?_; rintro e _ ⟨rfl, m2, rfl⟩)
  go_ret2
  exact ⟨rfl, hend'.out, (((((Only.refl (fp r (some g)) w).drewN _).setCell (p := ⟨g, first, none⟩) (fun _ => .inr rfl) _).drewN _).setCell (p := ⟨r, 1, none⟩) (fun _ => .inl rfl) _).setCell (p := ⟨r, 2, none⟩) (fun _ => .inl rfl) _⟩
end Go.Proofs.Ytjioljfggmhgcaa.RingI
