/- A ring that grows and is put into; taking; telling all. -/
import Derived.Test.YteniphdfhmbbeaaDoorMA
namespace Go.Proofs.YteniphdfhmbbeaaDoor.Ring
open Go.RowKit

theorem RingAt.same {w w' : World} {r : Nat} {o : Option Nat} {room : Nat} {q : List Jb} (h : RingAt w r o room q) (e : w'.heap = w.heap) : RingAt w' r o room q := by
  unfold RingAt at *
  rw [e]
  exact h
theorem sv_cell {w : World} {r : Nat} {o : Option Nat} {room : Nat} {q : List Jb} (h : RingAt w r o room q) : ∃ n, w.cell? ⟨r, 0, none⟩ = some (sv o n) ∧ q.length ≤ n ∧ n ≤ room := by
  obtain ⟨first, L, hr, h1, h2, h3⟩ := h
  exact ⟨L.length, by simp [World.cell?, hr], h3.le, h3.fits⟩

theorem grow_any {w : World} {r room : Nat} {o : Option Nat} {q : List Jb} (hR : RingAt w r o room q) (hc : w.cell? ⟨r, 0, none⟩ = some (sv o q.length)) (hlt : q.length < room) :
    Calls Tryd.prog 38 #[.pointer (some ⟨r, 0, none⟩)] w (Grown w r room q) := by
  cases o with
  | none => exact grow_none hR hlt
  | some g => exact grow_some hR hc hlt

set_option maxHeartbeats 800000 in
theorem put_grow {w : World} {r room : Nat} {o : Option Nat} {q : List Jb} (hR : RingAt w r o room q) (hc : w.cell? ⟨r, 0, none⟩ = some (sv o q.length)) (hlt : q.length < room) (x : Jb) :
    Calls Tryd.prog 25 #[.pointer (some ⟨r, 0, none⟩), x.val] w (PutEnd w r o room q x) := by
  obtain ⟨W0, hW0⟩ : ∃ W0, W0 = w.alloc (.cells x.cells.toArray 37) := ⟨_, rfl⟩
  have hW : w.alloc (.cells #[.int .i64 x.t, .int .i64 x.n, .int .i64 x.r] 37) = W0 := hW0.symm
  have ho : Only (fun _ => False) w W0 := by rw [hW0]; exact (Only.refl _ w).alloc _
  have hbox : W0.heap[w.heap.size]? = some (.cells x.cells.toArray 37 (0, 0)) := by rw [hW0]; exact heap_new_at _ _ rfl
  obtain ⟨B, hB⟩ : ∃ B, B = w.heap.size := ⟨_, rfl⟩
  rw [← hB] at hbox
  have hBr : B ≠ r := by have := hR.lt r (.inl rfl); omega
  have hsz0 : W0.heap.size = B + 1 := by rw [hW0, hB]; simp
  have hR0 := hR.new ho
  have hc := ho.cell hc (fun h => h)
  obtain ⟨first, L, hr, h1, h2, h3⟩ := id hR0
  have hm := h3.most
  obtain ⟨k, hk⟩ : ∃ k, k = q.length := ⟨_, rfl⟩
  rw [← hk] at hr hlt hc
  have c2 : W0.cell? ⟨r, 2, none⟩ = some (.int .i64 k) := by simp [World.cell?, hr]
  have c3 : W0.cell? ⟨r, 3, none⟩ = some (.int .i64 room) := by simp [World.cell?, hr]
  have hlen : ∃ a, sv o k = .slice a k k := by
    cases o with
    | none =>
      have : k = 0 := by have := h3.le; rw [h1 rfl] at this; have e : ([] : List Jb).length = 0 := rfl; omega
      subst this
      exact ⟨none, rfl⟩
    | some g => exact ⟨some ⟨g, 0, none⟩, rfl⟩
  obtain ⟨a, ha⟩ := hlen
  rw [ha] at hc
  have hkr : ¬ (room : Int) ≤ (k : Int) := by omega
  have hkk : ((k : Int) == (k : Int)) = true := by simp
  have hwr : IntKind.i64.wrap ((k : Int) + 1) = (k : Int) + 1 := IntWalk.i64_in _ (by omega)
  have hgrow : ∀ W : World, W.heap = W0.heap → Calls Tryd.prog 38 #[.pointer (some ⟨r, 0, none⟩)] W (Grown W r room q) := fun W hW =>
    grow_any (hR0.same hW) ((cell_of_heap hW _).trans (by rw [hc, ← ha, hk])) (by omega)
  have hgrow' := Lib.hid hgrow
  have hk' := Lib.hid hk
  have hbox' := Lib.hid hbox
  have ho' := Lib.hid ho
  have hB' := Lib.hid hB
  have hsz' := Lib.hid hsz0
  have hrl' := Lib.hid (row_lt hr)
  clear hr h1 h2 h3 hk hR hR0 ha hgrow hbox ho hW0 hB hsz0
  unfold Jb.val
  go_enter Tryd.func25, Tryd.ntmps25
  go_wp2
  rw [← hB'.out]
  go_quiet (fail)
  go_wp2
  go_quiet (fail)
  go_wp2_with fail
  refine (hgrow'.out (W0.drewN _) rfl).mono ?_
  rintro e W ⟨rfl, ⟨first, L, hr, h1, h2, h3⟩, ⟨n, hkn1, hc0⟩, hoW⟩
  obtain ⟨g, hg0⟩ : ∃ g, g = W0.heap.size := ⟨_, rfl⟩
  change W.heap[r]? = some (.cells #[sv (some W0.heap.size) L.length, _, _, _] 83 (0, 0)) at hr
  change W.cell? _ = some (.slice (some ⟨W0.heap.size, 0, none⟩) n n) at hc0
  obtain ⟨hgr, hg, hpos⟩ := h2 _ rfl
  change W0.heap.size ≠ r at hgr
  change W.heap[W0.heap.size]? = _ at hg
  rw [← hg0] at hr hc0 hgr hg
  have hfits := h3.fits
  have hn : n = L.length := by
    have e : W.cell? ⟨r, 0, none⟩ = some (sv (some g) L.length) := by simp [World.cell?, hr]
    rw [hc0] at e
    simpa [sv] using e
  simp only [sv] at hr
  rw [← hn, ← hk'.out] at hr
  rw [← hk'.out] at hkn1
  rw [← hn] at hfits
  have hf : first < n := by
    rcases h3.place with h | ⟨rfl, _⟩
    · rw [hn]; exact h
    · simp at hpos
  have hboxW : W.heap[B]? = some (.cells x.cells.toArray 37 (0, 0)) := hoW.heap (a := W0.drewN _) hbox'.out hBr
  have b0 := row_cell hboxW (i := 0) rfl
  have b1 := row_cell hboxW (i := 1) rfl
  have b2 := row_cell hboxW (i := 2) rfl
  have hBg : B ≠ g := by have := hsz'.out; omega
  have c1 : W.cell? ⟨r, 1, none⟩ = some (.int .i64 first) := by simp [World.cell?, hr]
  have c2' : W.cell? ⟨r, 2, none⟩ = some (.int .i64 k) := by simp [World.cell?, hr]
  have f2 : W.frozen? ⟨r, 2, none⟩ = false := by simp [World.frozen?, hr]
  have hj : (first + k) % n < n := Nat.mod_lt _ (by omega)
  obtain ⟨j, hj'⟩ : ∃ j, j = (first + k) % n := ⟨_, rfl⟩
  obtain ⟨y, u0, u1, u2, g0, g1, g2⟩ := job_cells hg (j := j) (by omega)
  have hslot : ∀ W' : World, W'.heap = W.heap → Calls Tryd.prog 35 #[.pointer (some ⟨r, 0, none⟩), .int .i64 k] W' fun e w' => e = .returned (.int .i64 (j : Int)) ∧ ∃ m, w' = W'.drewN m := by
    intro W' hW
    rw [hj']
    exact slot_any ((cell_of_heap hW _).trans hc0) ((cell_of_heap hW _).trans c1) (by omega) (by omega) hf (by omega)
  rw [← hj'] at hj
  have hjn : (j : Int) < (n : Int) := by omega
  have hend := put_end x hn hk'.out hkn1 (w := W) hr hgr hg h3
  rw [← hj'] at hend
  have hend' := Lib.hid hend
  have hslot' := Lib.hid hslot
  have hrg : ¬ r = g := fun e => hgr e.symm
  have hn' := Lib.hid hn
  have hj'' := Lib.hid hj'
  have hoW' := Lib.hid hoW
  have hg0' := Lib.hid hg0
  have hrl : r < W.heap.size := row_lt hr
  have hgl : g < W.heap.size := row_lt hg
  have hbl : B < W.heap.size := row_lt hboxW
  clear hr h1 h2 h3 hg hend hslot hn hj' hoW hg0 c2 c3 hc hboxW
  go_wp2
  refine wp_region_quiet_tail_lit 12 (by kernel_rfl) (by kernel_rfl) ?_
  simp only [List.take_succ_cons, List.take_zero, List.drop_succ_cons, List.drop_zero]
  repeat (go_big_quiet_step ((go_at_call 35; exact Calls.quiet_of (hslot'.out _ rfl))))
  refine wpQuiet_nil ?_
  rintro _ ⟨nq3, rfl⟩
  go_wp2
  go_ret
  have hs := hsz'.out
  have hb := hB'.out
  have hg2 := hg0'.out
  refine ⟨rfl, some g, hend'.out, .inr ⟨g, rfl, by omega⟩, ?_⟩
  have hoW1 : Only (fp r o) w W := ((ho'.out.mono (T := fp r o) (fun _ _ h => h.elim)).drewN _).trans hoW'.out (fun x hx e => .inl e)
  exact ((((hoW1.drewN _).setCell (p := ⟨g, j * 3, none⟩) (fun h => absurd h (by show ¬ g < _; omega)) _).setCell (p := ⟨g, j * 3 + 1, none⟩) (fun h => absurd h (by show ¬ g < _; omega)) _).setCell (p := ⟨g, j * 3 + 2, none⟩) (fun h => absurd h (by show ¬ g < _; omega)) _).setCell (p := ⟨r, 2, none⟩) (fun _ => .inl rfl) _

theorem put_any {w : World} {r room : Nat} {o : Option Nat} {q : List Jb} (hR : RingAt w r o room q) (hlt : q.length < room) (x : Jb) :
    Calls Tryd.prog 25 #[.pointer (some ⟨r, 0, none⟩), x.val] w (PutEnd w r o room q x) := by
  obtain ⟨n, hc, hle, hroom⟩ := sv_cell hR
  by_cases h : q.length = n
  · rw [← h] at hc
    exact put_grow hR hc hlt x
  · cases o with
    | none =>
      obtain ⟨first, L, hr, h1, h2, h3⟩ := hR
      have : q.length = 0 := by have := h3.le; rw [h1 rfl] at this; simpa using this
      exact put_grow ⟨first, L, hr, h1, h2, h3⟩ (by rw [this]; simp [World.cell?, hr, sv]) hlt x
    | some g => exact put_room hR hc (by omega) x
end Go.Proofs.YteniphdfhmbbeaaDoor.Ring
