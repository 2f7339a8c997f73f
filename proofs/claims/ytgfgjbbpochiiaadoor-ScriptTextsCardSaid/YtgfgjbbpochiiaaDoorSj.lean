/- Releases of one task: Periodic, where it is asked; what is collected. -/
import Derived.Test.YtgfgjbbpochiiaaDoorSi
import Derived.LoopNIn
namespace Go.Proofs.YtgfgjbbpochiiaaDoor
open Go Go.RowKit Go.Shelf
attribute [local go_sem] Oper.semAt_some

def mkE (a : Int) : EvV := ⟨a, 1, 0, 0, 0⟩
/-- What was collected, in the box B. -/
def AI (S : World) (B : Nat) (X : Nat → Prop) (pre : List Int) (W : World) : Prop :=
  ∃ (p : Option Addr) (cap : Nat) (h : Option Nat), W.heap[B]? = some (.cells #[.slice p pre.length cap] 30 (0, 0)) ∧ Win W 23 5 (.slice p pre.length cap) h pre.length (evCells (pre.map mkE)) ∧ (∀ k, h = some k → S.heap.size ≤ k ∧ ¬ X k) ∧ (∀ k, X k → S.heap.size ≤ k ∧ k < W.heap.size) ∧ Only (fun k => k = B) S W
theorem AI.steady {S : World} {B : Nat} (hB : B < S.heap.size) : Steady (AI S B) := by
  refine ⟨fun {X pre A C} h ho => ?_, fun {X X' pre A} hX h => ?_⟩
  · obtain ⟨p, cap, h, h1, h2, h3, h5, h6⟩ := h
    refine ⟨p, cap, h, ho.heap h1 (fun hx => by have := (h5 _ hx).1; omega), h2.kept ho (fun k hk => (h3 k hk).2), fun k hk => ⟨(h3 k hk).1, fun hx => ?_⟩, fun k hk => ?_, h6.trans ho (fun x hx h => by have := (h5 x h).1; omega)⟩
    · rcases hx with hx | hx
      · exact (h3 k hk).2 hx
      · have := h2.lt k hk
        omega
    · have := ho.size
      have := h6.size
      rcases hk with hk | hk
      · have := h5 k hk
        omega
      · omega
  · obtain ⟨p, cap, h, h1, h2, h3, h5, h6⟩ := h
    exact ⟨p, cap, h, h1, h2, fun k hk => ⟨(h3 k hk).1, fun hx => (h3 k hk).2 (hX k hx)⟩, fun k hk => h5 k (hX k hk), h6⟩
theorem multiples_any (a b : Int) (w : World) : Calls Tryd.prog 37 #[.int .i64 a, .int .i64 b] w (fun e w' => ∃ B C, e = .returned (.func (.func 48) #[] #[.pointer (some ⟨B, 0, none⟩), .pointer (some ⟨C, 0, none⟩)]) ∧ w'.cell? ⟨B, 0, none⟩ = some (.int .i64 a) ∧ w'.cell? ⟨C, 0, none⟩ = some (.int .i64 b) ∧ (w.heap.size ≤ B ∧ B < w'.heap.size) ∧ (w.heap.size ≤ C ∧ C < w'.heap.size) ∧ Only (fun _ => False) w w') := by
  have h1 := Lib.hid (heap_kept_alloc (heap_new_at w (.cells [Value.int .i64 a].toArray 3) rfl) (.cells [Value.int .i64 b].toArray 3))
  have h2 := Lib.hid (heap_new_at (w.alloc (.cells [Value.int .i64 a].toArray 3)) (.cells [Value.int .i64 b].toArray 3) rfl)
  have hO := Lib.hid (((Only.refl (fun _ => False) w).alloc (.cells [Value.int .i64 a].toArray 3)).alloc (.cells [Value.int .i64 b].toArray 3))
  have hmf : ∀ (fn : Fn) (first cap : Array Value) (w : World), (Instr.makeFunc fn first cap).run Tryd.prog w = .ok (.func fn first cap) w := fun _ _ _ _ => rfl
  go_enter Tryd.func37, Tryd.ntmps37
  go_wp2
  go_ret
  have c2 := row_cell h2.out (i := 0) rfl
  rw [alloc_size] at c2
  exact ⟨_, _, rfl, row_cell h1.out (i := 0) rfl, c2, ⟨by simp, by simp; omega⟩, ⟨by simp, by simp⟩, hO.out⟩

def zcfg (T : Nat) : Value := .agg #[.int .i64 0, .int .i64 0, .int .i64 0, .int .i64 0, .slice none 0 0, .int .i64 0, .slice none 0 0, .slice none 0 0, .slice (some ⟨T, 0, none⟩) 1 1, .slice none 0 0]
set_option maxRecDepth 100000 in
set_option maxHeartbeats 2000000 in
theorem periodic_fix {w : World} {T : Nat} (hT : w.heap[T]? = some (.cells [Value.int .i64 0, .int .i64 0, .int .i64 4, .int .i64 0, .int .i64 0, .int .i64 0, .slice none 0 0].toArray 41 (0, 0))) :
    Calls Tryd.prog 16 #[zcfg T, .int .i64 9] w (fun e w' => ∃ p cap h, e = .returned (.slice p 3 cap) ∧ Win w' 23 5 (.slice p 3 cap) h 3 (evCells ((pm 3).map mkE)) ∧ Only (fun _ => False) w w') := by
  have hT' := Lib.hid hT
  clear hT
  unfold zcfg
  refine callsIn_wide (n := 3) |>.1 ?_
  refine callsIn_of_wp_marks Tryd.func16 rfl trivial ?_ rfl
  simp only [Tryd.ntmps16, List.size_toArray, List.length_cons, List.length_nil, Nat.reduceAdd, Nat.reduceSub, Array.replicate_succ, Array.replicate_zero, List.push_toArray, List.append_toArray, List.nil_append, List.cons_append]
  gi_wp2
  have hb4 := Lib.hid (heap_kept_alloc (heap_new_at (w.alloc (.cells #[.int .i64 0, .int .i64 0, .int .i64 0, .int .i64 0, .slice none 0 0, .int .i64 0, .slice none 0 0, .slice none 0 0, .slice (some ⟨T, 0, none⟩) 1 1, .slice none 0 0] 47)) (.cells #[.slice none 0 0] 30) rfl) (.cells #[.slice none 0 0] 30))
  have hb5 := Lib.hid (heap_new_at ((w.alloc (.cells #[.int .i64 0, .int .i64 0, .int .i64 0, .int .i64 0, .slice none 0 0, .int .i64 0, .slice none 0 0, .slice none 0 0, .slice (some ⟨T, 0, none⟩) 1 1, .slice none 0 0] 47)).alloc (.cells #[.slice none 0 0] 30)) (.cells #[.slice none 0 0] 30) rfl)
  have hOw := Lib.hid (((((Only.refl (fun _ => False) w).alloc (.cells #[.int .i64 0, .int .i64 0, .int .i64 0, .int .i64 0, .slice none 0 0, .int .i64 0, .slice none 0 0, .slice none 0 0, .slice (some ⟨T, 0, none⟩) 1 1, .slice none 0 0] 47)).alloc (.cells #[.slice none 0 0] 30)).alloc (.cells #[.slice none 0 0] 30)))
  have hsz := Lib.hid (show (((w.alloc (.cells #[.int .i64 0, .int .i64 0, .int .i64 0, .int .i64 0, .slice none 0 0, .int .i64 0, .slice none 0 0, .slice none 0 0, .slice (some ⟨T, 0, none⟩) 1 1, .slice none 0 0] 47)).alloc (.cells #[.slice none 0 0] 30)).alloc (.cells #[.slice none 0 0] 30)).heap.size = w.heap.size + 3 by simp)
  rw [alloc_size] at hb4
  rw [alloc_size, alloc_size] at hb5
  generalize ((w.alloc (.cells #[.int .i64 0, .int .i64 0, .int .i64 0, .int .i64 0, .slice none 0 0, .int .i64 0, .slice none 0 0, .slice none 0 0, .slice (some ⟨T, 0, none⟩) 1 1, .slice none 0 0] 47)).alloc (.cells #[.slice none 0 0] 30)).alloc (.cells #[.slice none 0 0] 30) = W3 at hb4 hb5 hOw hsz ⊢
  have hT3 := hOw.out.heap hT'.out (fun h => h)
  have t0 := row_cell hT3 (i := 0) rfl
  have t1 := row_cell hT3 (i := 1) rfl
  have t2 := row_cell hT3 (i := 2) rfl
  have t3 := row_cell hT3 (i := 3) rfl
  have t4 := row_cell hT3 (i := 4) rfl
  have t5 := row_cell hT3 (i := 5) rfl
  have t6 := row_cell hT3 (i := 6) rfl
  have tl := row_lt hT3
  have hb6 := Lib.hid (heap_kept_alloc (heap_new_at W3 (.cells [Value.int .i64 0].toArray 3) rfl) (.cells [Value.int .i64 0, .int .i64 0, .int .i64 4, .int .i64 0, .int .i64 0, .int .i64 0, .slice none 0 0].toArray 41))
  have hO36 := Lib.hid (((Only.refl (fun _ => False) W3).alloc (.cells [Value.int .i64 0].toArray 3)).alloc (.cells [Value.int .i64 0, .int .i64 0, .int .i64 4, .int .i64 0, .int .i64 0, .int .i64 0, .slice none 0 0].toArray 41))
  clear hT3
  refine wpIn_loop_rounds 2 ?_
  rw [roundsIn_succ]
  gi_wp2_with fail
  refine ⟨trivial, (callsIn_wide.2 (multiples_any 4 9 _)).mono ?_⟩
  rintro e WS ⟨B, C, rfl, cB, cC, hB, hC, hO5⟩
  have hSz := hO5.size
  simp only [alloc_size] at hB hC hSz
  have hOS := Lib.hid (hO36.out.trans' hO5)
  have hb6S := Lib.hid (hO5.heap hb6.out (fun h => h))
  have hb5S := Lib.hid (hOS.out.heap hb5.out (fun h => h))
  have hb4S := Lib.hid (hOS.out.heap hb4.out (fun h => h))
  have hsz' := hsz.out
  have hit := Lib.hid (mult_iter cB cC)
  have hBC := Lib.hid (And.intro hB hC)
  have hSz' := Lib.hid hSz
  have hszh := Lib.hid hsz'
  clear cB cC hB hC hSz hO5 t0 t1 t2 t3 t4 t5 t6 tl hsz'
  gi_wp2
  refine wpIn_range rfl (enters_of Tryd.func48 (by kernel_rfl) rfl) hit.out (Only.refl _ WS) (fun k hk => by have := hBC.out; omega) (fun _ => rfl)
    (AI WS (w.heap.size + 1 + 1)) (fun _ _ _ _ => False) (AI.steady (by have := hSz'.out; have := hszh.out; omega)) (fun _ => ⟨fun h _ => h, fun _ h => h⟩) ⟨none, 0, none, hb5S.out, Win.nil _ _ _, (fun k hk => (by cases hk)), fun k hk => hk.elim, Only.refl _ _⟩ ?round ?done ?stop
  case round =>
    intro l1 D X pre x W6 hl1 hD hXl hXD hl1' hD' hI hpre
    unfold encI
    gi_wp2
    refine ⟨Only.refl _ _, fun W7 hO7 hI7 => ?_⟩
    obtain ⟨p, cap, h, g1, g2, g3, g5, g6⟩ := hI7
    have c0 := row_cell (L := [Value.slice p pre.length cap]) (i := 0) g1 rfl
    have hlt := row_lt g1
    have hb6W := g6.heap hb6S.out (fun e => by have := hszh.out; omega)
    have c6 := row_cell (L := [Value.int .i64 0]) (i := 0) hb6W rfl
    have l6 := row_lt hb6W
    have hx := Lib.hid (And.intro g1 (And.intro g2 (And.intro g3 (And.intro g5 g6))))
    have hpl := Lib.hid (show pre.length + 1 ≤ 3 by have := hpre.length_le; simpa [pm] using this)
    have hRX := Lib.hid (show ∀ k, (k = w.heap.size + 1 + 1 ∨ h = some k) → ¬ (k = B ∨ k = C) ∧ ¬ X k from fun k hk => by
      have h1 := hBC.out
      have h2 := hSz'.out
      have h3 := hszh.out
      rcases hk with rfl | hk
      · exact ⟨by omega, fun hx => by have := (g5 _ hx).1; omega⟩
      · have := g3 k hk
        exact ⟨by omega, this.2⟩)
    clear g1 g2 g3 g5 g6 hpre hI hO7 hb6W
    obtain ⟨n, hn⟩ : ∃ n, n = pre.length := ⟨_, rfl⟩
    rw [← hn] at hx hpl c0
    have hn' := Lib.hid hn
    clear hn
    have hn256 : ((n : Int) == 256) = false := by rw [beq_eq_false_iff_ne]; have := hpl.out; omega
    gi_wp2_with (gi_at_builtin; refine wpListIn_append_win rfl _ _ 30 rfl 23 (Value.agg #[.int .i64 0, .int .i64 0, .int .i64 0, .int .i64 0, .int .i64 0]) 5 40 Tryd.underlying30 infoE rfl (by decide) rfl (hx.out.2.1.kept ((Only.refl (fun _ => False) W7).alloc _) (fun _ _ h => h)) _ 1 1 rfl [Value.int .i64 x, .int .i64 1, .int .i64 0, .int .i64 0, .int .i64 0] rfl (fun _ => ⟨_, rfl, row_five (heap_new_at _ _ rfl)⟩) (by simp [Value.oneCell']) (by unfold maxLen; have := hpl.out; omega) (by have := hpl.out; omega) ?_; intro v4 w4 h4 hW4 hO4 hh4; obtain ⟨p4, c4, rfl, _, _⟩ := hW4.out.form; have hB4 := hO4.out.heap (heap_kept_alloc hx.out.1 _) (fun e => by have h1 := (hx.out.2.2.1 _ e.symm).1; have h2 := hSz'.out; have h3 := hszh.out; omega); have q0 := row_cell (L := [Value.slice p n cap]) (i := 0) hB4 rfl; have q1 := row_free (L := [Value.slice p n cap]) hB4 0; have hlt4 := row_lt hB4; have hB5 := Lib.hid (row_set (L := [Value.slice p n cap]) hB4 0 (Value.slice p4 (n + 1) c4)); clear hB4)
    obtain ⟨r1, r2, r3, r5, r6⟩ := hx.out
    have hA : Only (fun k => ¬ (k = B ∨ k = C) ∧ ¬ X k) W7 w4 := ((Only.refl _ W7).alloc _).trans hO4.out (fun k _ hk => hRX.out k (.inr hk.symm))
    have hA2 := Only.setCell hA (p := ⟨w.heap.size + 1 + 1, 0, none⟩) (fun _ => hRX.out _ (.inl rfl)) (Value.slice p4 (n + 1) c4)
    have hS : WS.heap.size ≤ W7.heap.size := r6.size
    have hh : ∀ k, h4 = some k → WS.heap.size ≤ k ∧ ¬ X k := fun k hk => by
      rcases hh4.out with rfl | ⟨g, hg, hge⟩
      · exact r3 k hk
      · rw [hg] at hk
        cases hk
        rw [alloc_size] at hge
        exact ⟨by omega, fun hx => by have := (r5 _ hx).2; omega⟩
    refine ⟨hA2, p4, c4, h4, ?_, ?_, hh, fun k hk => ⟨(r5 k hk).1, Nat.lt_of_lt_of_le (r5 k hk).2 hA2.size⟩, ?_⟩
    · rw [List.length_append, ← hn'.out]
      exact hB5.out
    · rw [List.length_append, ← hn'.out, List.map_append]
      have := evCells_snoc (pre.map mkE) (mkE x)
      rw [show (pre.map mkE ++ [x].map mkE) = pre.map mkE ++ [mkE x] from rfl, this]
      exact hW4.out.kept ((Only.refl (fun k => k = w.heap.size + 1 + 1) w4).setCell (p := ⟨w.heap.size + 1 + 1, 0, none⟩) (fun _ => rfl) _) (fun k hk e => by have h1 := (hh k hk).1; have h2 := hSz'.out; have h3 := hszh.out; omega)
    · exact Only.setCell ((r6.alloc _).trans hO4.out (fun x hx e => by have := (r3 x e.symm).1; omega)) (p := ⟨w.heap.size + 1 + 1, 0, none⟩) (fun _ => rfl) _
  case done =>
    intro D X W5 hD hXD hI hK
    obtain ⟨p, cap, h, g1, g2, g3, g5, g6⟩ := hI
    have hl3 : (pm 3).length = 3 := rfl
    rw [hl3] at g1 g2
    have g4 := g6.heap hb4S.out (fun e => by omega)
    have c5 := row_cell (L := [Value.slice p 3 cap]) (i := 0) g1 rfl
    have c4 := row_cell (L := [Value.slice none 0 0]) (i := 0) g4 rfl
    have f4 := row_free (L := [Value.slice none 0 0]) g4 0
    have l5 := row_lt g1
    have l4 := row_lt g4
    have hne : D ≠ w.heap.size + 1 := by have h2 := hSz'.out; have h3 := hszh.out; omega
    have hset := Lib.hid (row_set (L := [Value.slice none 0 0]) g4 0 (.slice p 3 cap))
    have hfin := Lib.hid (show Only (fun _ => False) w W5 from (hOw.out.trans' hOS.out).trans g6 (fun k hk e => by omega))
    have hg := Lib.hid (And.intro g2 (And.intro g3 g5))
    clear g1 g2 g3 g4 g5 g6
    gi_wp2_with fail
    rw [roundsIn_succ]
    gi_wp2
    have oS := only_set W5 (w.heap.size + 1) 0 (Value.slice p 3 cap)
    have hK2 := oS.heap hK hne
    have oP := only_put (W5.setCell ⟨w.heap.size + 1, 0, none⟩ (Value.slice p 3 cap)) D (.deferred none)
    have hc := row_cell (L := [Value.slice p 3 cap]) (i := 0) (oP.heap hset.out (fun e => hne e.symm)) rfl
    have hend := Lib.hid (And.intro ((hg.out.1.kept oS (fun k hk e => by have := (hg.out.2.1 k hk).1; have h2 := hSz'.out; have h3 := hszh.out; omega)).kept oP (fun k hk e => (hg.out.2.1 k hk).2 (e ▸ hXD))) ((hfin.out.trans oS (fun k hk e => by omega)).trans oP (fun k hk e => by have := hfin.out.size; have h2 := hSz'.out; have h3 := hszh.out; omega)))
    refine ⟨by simp, .inl ⟨_, _, rfl, run_takeDeferred hK2, ?_⟩⟩
    generalize (W5.setCell ⟨w.heap.size + 1, 0, none⟩ (Value.slice p 3 cap)).putObj D (.deferred none) = W9 at hc hend ⊢
    refine ⟨.slice p 3 cap, ?_, p, cap, h, rfl, hend.out⟩
    simp [results, Tryd.results16, go_sem, hc]
  case stop =>
    intro D c' X pre W5 hD hXD hpre h
    exact h.elim
end Go.Proofs.YtgfgjbbpochiiaaDoor
