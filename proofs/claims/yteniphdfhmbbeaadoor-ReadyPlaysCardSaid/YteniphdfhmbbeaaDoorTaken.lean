/- Taking a job out of a ring; telling all. -/
import Derived.Test.YteniphdfhmbbeaaDoorTake
import Derived.Deep.Cut
namespace Go.Proofs.YteniphdfhmbbeaaDoor.Ring
open Go.RowKit

/-- What taking leaves: the others. -/
def TakeEnd (w : World) (r : Nat) (o : Option Nat) (room : Nat) (q : List Jb) (x : Jb) (e : Ending) (w' : World) : Prop :=
  e = .returned (.tuple #[x.val, .int .i64 0]) ∧ RingAt w' r o room q ∧ Only (fp r o) w w'

set_option maxHeartbeats 1600000 in
theorem take_end {w : World} {r g room first n k j : Nat} {x : Jb} {q : List Jb} {L : List Jb} (z : Jb) (hn : n = L.length) (hk : k = (x :: q).length) (hj : j = (first + 1) % n)
    (hr : w.heap[r]? = some (.cells #[.slice (some ⟨g, 0, none⟩) n n, .int .i64 first, .int .i64 k, .int .i64 room] 83 (0, 0))) (hgr : g ≠ r) (hg : w.heap[g]? = some (.cells (jbCells L).toArray 37 (0, 0))) (h3 : Laid L first room (x :: q)) :
    RingAt (((w.setCells g (first * 3) z.cells).setCell ⟨r, 1, none⟩ (.int .i64 j)).setCell ⟨r, 2, none⟩ (.int .i64 ((k : Int) - 1))) r (some g) room q := by
  subst hn
  subst hk
  have hle := h3.le
  have hpos : 0 < L.length := Nat.lt_of_lt_of_le (by simp) hle
  have hf : first < L.length := by
    rcases h3.place with h | ⟨rfl, _⟩
    · exact h
    · simp at hpos
  have h1 : (w.setCells g (first * 3) z.cells).heap[r]? = _ := (only_setCells z.cells _ w).heap hr (fun e => hgr e.symm)
  have h2 := heap_setCell_same _ r 1 _ 83 (.int .i64 j) h1
  have h3' := heap_setCell_same _ r 2 _ 83 (.int .i64 (((x :: q).length : Int) - 1)) h2
  have hg2 := heap_setCells z.cells (first * 3) w _ hg
  rw [← jbCells_set _ _ _ hf] at hg2
  refine ⟨j, L.set first z, ?_, (fun h => by cases h), ?_, ?_⟩
  · rw [h3']
    simp [sv]
  · rintro g' hg'
    cases hg'
    refine ⟨hgr, ?_, by simp; omega⟩
    rw [Below.heap_setCell _ _ _ _ (by exact hgr), Below.heap_setCell _ _ _ _ (by exact hgr), hg2]
  · subst hj
    have hlq : q.length + 1 ≤ L.length := hle
    refine ⟨by rw [List.length_set]; omega, by rw [List.length_set]; exact h3.fits, h3.most, .inl (by rw [List.length_set]; exact Nat.mod_lt _ hpos), fun i hi => ?_⟩
    simp only [List.length_set]
    rw [List.getElem?_set]
    have hi' : i + 1 < L.length := by omega
    have e : ((first + 1) % L.length + i) % L.length = (first + (i + 1)) % L.length := by rw [Nat.mod_add_mod]; congr 1; omega
    rw [e, if_neg ?_, h3.at_ (i + 1) (by rw [List.length_cons]; omega)]
    · rw [List.getElem?_cons_succ]
    · have e2 : (first + (i + 1)) % L.length = if first + (i + 1) < L.length then first + (i + 1) else first + (i + 1) - L.length := by
        split
        · rw [Nat.mod_eq_of_lt (by omega)]
        · rw [Nat.mod_eq_sub_mod (by omega), Nat.mod_eq_of_lt (by omega)]
      rw [e2]
      split <;> omega

set_option maxHeartbeats 1600000 in
theorem take_some {w : World} {r room : Nat} {o : Option Nat} {x : Jb} {q : List Jb} (hR : RingAt w r o room (x :: q)) :
    Calls Tryd.prog 21 #[.pointer (some ⟨r, 0, none⟩)] w (TakeEnd w r o room q x) := by
  obtain ⟨g, rfl⟩ : ∃ g, o = some g := by
    obtain ⟨g, _, _, h, _⟩ := hR.slot
    exact ⟨g, h⟩
  have hrl := hR.lt r (.inl rfl)
  have hgl := hR.lt g (.inr rfl)
  obtain ⟨B, hB⟩ : ∃ B, B = w.heap.size := ⟨_, rfl⟩
  have hB' := Lib.hid hB
  have hR' := Lib.hid hR
  have hfirst := Lib.hid (fun W (hW : Only (fun _ => False) w W) => first_some (hR.new hW))
  have hne := Lib.hid (show (B ≠ r ∧ B ≠ g ∧ B + 1 ≠ r ∧ B + 1 ≠ g) ∧ ∀ k, fp r (some g) k → k < B from ⟨by omega, fun k hk => by have := hR.lt k hk; omega⟩)
  clear hR hB hrl hgl
  unfold TakeEnd
  go_enter Tryd.func21, Tryd.ntmps21
  go_wp2_with fail
  refine (hfirst.out _ (((Only.refl _ w).alloc _).alloc _)).mono ?_
  rintro e W2 ⟨rfl, ho2⟩
  have ho20 : Only (fun _ => False) w W2 := (((Only.refl (fun _ => False) w).alloc _).alloc _).trans' ho2
  have hb0 : W2.heap[B]? = some (.cells zjb.cells.toArray 37 (0, 0)) := ho2.heap (heap_kept_alloc (heap_new_at w (.cells zjb.cells.toArray 37) hB'.out.symm) _) (fun h => h)
  have hb1 : W2.heap[B + 1]? = some (.cells zjb.cells.toArray 37 (0, 0)) := ho2.heap (heap_new_at _ (.cells zjb.cells.toArray 37) (by rw [hB'.out]; simp)) (fun h => h)
  have hsz2 : B + 2 ≤ W2.heap.size := by
    have := ho2.size
    have e := hB'.out
    simp at this
    omega
  obtain ⟨W3, hW3⟩ : ∃ W3, W3 = W2.alloc (.cells x.cells.toArray 37) := ⟨_, rfl⟩
  have hW : W2.alloc (.cells #[.int .i64 x.t, .int .i64 x.n, .int .i64 x.r] 37) = W3 := hW3.symm
  have ho3 : Only (fun _ => False) W2 W3 := by rw [hW3]; exact (Only.refl _ _).alloc _
  obtain ⟨B2, hB2⟩ : ∃ B2, B2 = W2.heap.size := ⟨_, rfl⟩
  have hb2 : W3.heap[B2]? = some (.cells x.cells.toArray 37 (0, 0)) := by rw [hW3]; exact heap_new_at _ _ hB2.symm
  have hb0' := ho3.heap hb0 (fun h => h)
  have hb1' := ho3.heap hb1 (fun h => h)
  have ho30 := ho20.trans' ho3
  obtain ⟨first, L, hr, h1, h2, h3⟩ := hR'.out.new ho30
  obtain ⟨hgr, hg, hpos⟩ := h2 g rfl
  have hm := h3.most
  have hfits := h3.fits
  obtain ⟨n, hn⟩ : ∃ n, n = L.length := ⟨_, rfl⟩
  obtain ⟨k, hk⟩ : ∃ k, k = (x :: q).length := ⟨_, rfl⟩
  simp only [sv] at hr
  rw [← hn, ← hk] at hr
  rw [← hn] at hfits hpos
  have hk0 : 0 < k := by rw [hk]; simp
  have hkn : k ≤ n := by rw [hk, hn]; exact h3.le
  have hf : first < n := by
    rcases h3.place with h | ⟨rfl, _⟩
    · rw [hn]; exact h
    · simp at hn; omega
  have c0 : W3.cell? ⟨r, 0, none⟩ = some (.slice (some ⟨g, 0, none⟩) n n) := by simp [World.cell?, hr]
  have c1 : W3.cell? ⟨r, 1, none⟩ = some (.int .i64 first) := by simp [World.cell?, hr]
  have c2 : W3.cell? ⟨r, 2, none⟩ = some (.int .i64 k) := by simp [World.cell?, hr]
  have f1 : W3.frozen? ⟨r, 1, none⟩ = false := by simp [World.frozen?, hr]
  have f2 : W3.frozen? ⟨r, 2, none⟩ = false := by simp [World.frozen?, hr]
  obtain ⟨y, u0, u1, u2, g0, g1, g2⟩ := job_cells hg (j := first) (by omega)
  have a0 := row_cell hb1' (i := 0) rfl
  have a1 := row_cell hb1' (i := 1) rfl
  have a2 := row_cell hb1' (i := 2) rfl
  simp only [zjb] at a0 a1 a2
  have hrg : ¬ r = g := fun e => hgr e.symm
  have hfn : (first : Int) < (n : Int) := by omega
  have hwr : IntKind.i64.wrap ((k : Int) - 1) = (k : Int) - 1 := IntWalk.i64_in _ (by omega)
  obtain ⟨j, hj⟩ : ∃ j, j = (first + 1) % n := ⟨_, rfl⟩
  have hslot : ∀ W : World, W.cell? ⟨r, 0, none⟩ = some (.slice (some ⟨g, 0, none⟩) n n) → W.cell? ⟨r, 1, none⟩ = some (.int .i64 first) → Calls Tryd.prog 35 #[.pointer (some ⟨r, 0, none⟩), .int .i64 1] W fun e w' => e = .returned (.int .i64 (j : Int)) ∧ ∃ m, w' = W.drewN m := by
    intro W h0 h1
    rw [hj]
    exact slot_any h0 h1 (i := 1) (by omega) (by omega) hf (by omega)
  have hend := take_end zjb hn hk hj (w := W3) hr hgr hg h3
  have hend' := Lib.hid hend
  have hslot' := Lib.hid hslot
  have hE := Lib.hid (And.intro hb0' (And.intro hb2 (And.intro ho30 (And.intro hsz2 hB2))))
  have hn' := Lib.hid hn
  have hk' := Lib.hid hk
  have hj' := Lib.hid hj
  have hrl : r < W3.heap.size := row_lt hr
  have hgl : g < W3.heap.size := row_lt hg
  have hbl : B < W3.heap.size := row_lt hb0'
  have hbl1 : B + 1 < W3.heap.size := row_lt hb1'
  have hbl2 : B2 < W3.heap.size := row_lt hb2
  clear hr h1 h2 h3 hg hend hslot hn hk hj hb0 hb1 hb0' hb1' hb2 ho2 ho20 ho3 ho30 hsz2 hW3
  rw [← hB'.out]
  unfold Jb.val
  go_wp2
  rw [← hB2]
  clear hB2
  have hcl := Lib.hid hW
  clear hW
  refine wp_region_quiet_tail_lit 10 (by kernel_rfl) (by kernel_rfl) ?_
  simp only [List.take_succ_cons, List.take_zero, List.drop_succ_cons, List.drop_zero]
  repeat (go_big_quiet_step (fail))
  refine wpQuiet_nil ?_
  rintro _ ⟨nq3, rfl⟩
  go_upto_region 8 with (go_at_call 35; refine (hslot'.out _ (by simp [*, go_sem]) (by simp [*, go_sem])).mono ?_; rintro e _ ⟨rfl, m2, rfl⟩)
  have hR5 := hend'.out
  have ho5 : Only (fp r (some g)) W3 _ := (((((((Only.refl (fp r (some g)) W3).drewN nq3).setCell (p := ⟨g, first * 3, none⟩) (fun _ => .inr rfl) (.int .i64 0)).setCell (p := ⟨g, first * 3 + 1, none⟩) (fun _ => .inr rfl) (.int .i64 0)).setCell (p := ⟨g, first * 3 + 2, none⟩) (fun _ => .inr rfl) (.int .i64 0)).drewN m2).setCell (p := ⟨r, 1, none⟩) (fun _ => .inl rfl) (.int .i64 j)).setCell (p := ⟨r, 2, none⟩) (fun _ => .inl rfl) (.int .i64 ((k : Int) - 1))
  generalize hW5 : World.setCell _ _ _ = W5 at ho5 ⊢
  have hR5 : RingAt W5 r (some g) room q := by rw [← hW5]; exact hend'.out
  obtain ⟨e0, e2, e30, esz, eB2⟩ := hE.out
  obtain ⟨⟨n1, n2, n3, n4⟩, n5⟩ := hne.out
  have e0' := ho5.heap e0 (fun hf => by rcases hf with rfl | hf; exact n1 rfl; exact n2 (Option.some.inj hf))
  have e2' := ho5.heap e2 (fun hf => by have := n5 B2 hf; omega)
  have d0 := row_cell e0' (i := 0) rfl
  have d1 := row_cell e0' (i := 1) rfl
  have d2 := row_cell e0' (i := 2) rfl
  have p0 := row_cell e2' (i := 0) rfl
  have p1 := row_cell e2' (i := 1) rfl
  have p2 := row_cell e2' (i := 2) rfl
  have q0 := row_free e0' 0
  have q1 := row_free e0' 1
  have q2 := row_free e0' 2
  have l0 := row_lt e0'
  have l2 := row_lt e2'
  have hfin := Lib.hid (show RingAt (((W5.setCell ⟨B, 0, none⟩ (.int .i64 x.t)).setCell ⟨B, 1, none⟩ (.int .i64 x.n)).setCell ⟨B, 2, none⟩ (.int .i64 x.r)) r (some g) room q ∧ Only (fp r (some g)) w (((W5.setCell ⟨B, 0, none⟩ (.int .i64 x.t)).setCell ⟨B, 1, none⟩ (.int .i64 x.n)).setCell ⟨B, 2, none⟩ (.int .i64 x.r)) from by
    have hO : Only (fun y => y = B) W5 (((W5.setCell ⟨B, 0, none⟩ (.int .i64 x.t)).setCell ⟨B, 1, none⟩ (.int .i64 x.n)).setCell ⟨B, 2, none⟩ (.int .i64 x.r)) := (((Only.refl (fun y => y = B) W5).setCell (p := ⟨B, 0, none⟩) (fun _ => rfl) _).setCell (p := ⟨B, 1, none⟩) (fun _ => rfl) _).setCell (p := ⟨B, 2, none⟩) (fun _ => rfl) _
    refine ⟨hR5.kept hO (fun k hk e => by have := n5 k hk; omega), ((e30.mono (T := fp r (some g)) (fun _ _ h => h.elim)).trans' ho5).trans hO (fun y hy e => ?_)⟩
    have := hB'.out
    omega)
  clear hW5 hR5 ho5 e0 e2 e0' e2' e30 esz eB2 hend' hslot' hE hcl n5 c0 c1 c2 f1 f2 a0 a1 a2 u0 u1 u2 g0 g1 g2
  go_wp2
  exact bodyPost_ret (v := .tuple #[.agg #[.int .i64 x.t, .int .i64 x.n, .int .i64 x.r], .int .i64 0]) (by simp [results, Tryd.results21, go_sem, d0, d1, d2]) rfl ⟨rfl, hfin.out⟩
end Go.Proofs.YteniphdfhmbbeaaDoor.Ring
