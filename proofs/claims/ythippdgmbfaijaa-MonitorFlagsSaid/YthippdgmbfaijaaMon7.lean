/- All, First. -/
import Derived.Test.YthippdgmbfaijaaMon6
namespace Go.Proofs.Ythippdgmbfaijaa
open Go Go.RowKit Go.Maps Go.Shelf
attribute [local go_sem] Oper.semAt_some

theorem flags_any (c : ConfV) (A : Option Addr) (n cap : Nat) (w : World) : Calls Try.prog 12 #[c.val, .slice A n cap] w fun e w' => e = .returned (.func (.func 18) #[] #[.pointer (some ⟨w.heap.size + 1, 0, none⟩), .pointer (some ⟨w.heap.size, 0, none⟩)]) ∧ w' = (w.alloc (.cells c.cells.toArray 27)).alloc (.cells #[.slice A n cap] 28) := by
  unfold ConfV.val ConfV.cells
  go_enter Try.func12, Try.ntmps12
  go_wp2
  go_ret
  exact ⟨rfl, rfl⟩
theorem collect_any (f : Value) (w : World) {R : Ending → World → Prop} (h : Calls Try.prog 17 #[.slice none 0 0, f] w R) (hR : ∀ e w', R e w' → ∃ A n cap, e = .returned (.slice A n cap)) : Calls Try.prog 11 #[f] w R := by
  have h' := Lib.hid h
  have hR' := Lib.hid hR
  clear h hR
  go_enter Try.func11, Try.ntmps11
  go_wp2_with fail
  refine h'.out.mono ?_
  intro e w1 hr
  obtain ⟨A, n, cap, rfl⟩ := hR'.out e w1 hr
  have hr' := Lib.hid hr
  clear hr
  go_wp2
  exact hr'.out
theorem folU_len (l : List RecV) (k : Nat) : (folU l k).length ≤ k := by
  unfold folU
  have := List.length_filterMap_le (folAt l) (List.range k)
  simpa using this
theorem flagsL_len (ts : List TaskV) (l : List RecV) : (flagsL ts l).length ≤ l.length := by
  unfold flagsL
  exact Nat.le_trans (List.length_filterMap_le _ _) (folU_len l _)

section
variable {w : World} {c : ConfV} {ts : List TaskV} {A : Option Addr} {n cap : Nat} {l : List RecV}
/-- The iterator that flags hands back, over what came in. -/
theorem flags_made (hl : RecRow w A l) (hn : l.length = n) (hmax : n ≤ 1000000) (hfit : ∀ r ∈ l, fitR r) (hT : TasksAt w c.ta ts) (hT9 : c.ta.n ≤ 9223372036854775807) :
    ∃ RD : Nat → Prop, Iterates Try.prog 18 #[.pointer (some ⟨w.heap.size + 1, 0, none⟩), .pointer (some ⟨w.heap.size, 0, none⟩)] encG (flagsL ts l) RD ((w.alloc (.cells c.cells.toArray 27)).alloc (.cells #[.slice A n cap] 28)) ∧ ∀ k, RD k → k < w.heap.size + 2 := by
  have hO : Only (fun _ => False) w ((w.alloc (.cells c.cells.toArray 27)).alloc (.cells #[.slice A n cap] 28)) := ((Only.refl _ w).alloc _).alloc _
  refine ⟨RD2 (w.heap.size + 1) w.heap.size A n c.ta, flags_iter (cap := cap) (row_cell (L := [.slice A n cap]) (i := 0) (heap_new_at _ _ (by simp)) rfl) (hl.new hO) hn hmax hfit (heap_kept_alloc (heap_new_at _ _ rfl) _) (hT.new hO) hT9, fun k hk => ?_⟩
  rcases hk with (rfl | hk) | rfl | hk
  · omega
  · have := hl.lt (hn ▸ hk)
    omega
  · omega
  · have := hT.lt hk
    omega

set_option maxRecDepth 100000 in
theorem all_any (hl : RecRow w A l) (hn : l.length = n) (hmax : n ≤ 1000000) (hfit : ∀ r ∈ l, fitR r) (hT : TasksAt w c.ta ts) (hT9 : c.ta.n ≤ 9223372036854775807) :
    Calls Try.prog 7 #[c.val, .slice A n cap] w (FlagsEnd (flagsL ts l) w) := by
  have hO : Only (fun _ => False) w (w.alloc (.cells c.cells.toArray 27)) := (Only.refl _ w).alloc _
  have hb := heap_new_at w (.cells c.cells.toArray 27) rfl
  obtain ⟨RD, hit, hRD⟩ := flags_made (w := w.alloc (.cells c.cells.toArray 27)) (cap := cap) (hl.new hO) hn hmax hfit (hT.new hO) hT9
  have hcol := Lib.hid (appendSeq_any hit (fun k hk => by have := hRD k hk; simp at this ⊢; omega) (enters_of Try.func18 (by kernel_rfl) rfl) (Nat.le_trans (flagsL_len ts l) (by omega)))
  have hfl := Lib.hid (flags_any c A n cap (w.alloc (.cells c.cells.toArray 27)))
  have hO2 := Lib.hid ((hO.alloc (.cells c.cells.toArray 27)).alloc (.cells #[.slice A n cap] 28))
  have d0 := row_cell hb (i := 0) rfl
  have d1 := row_cell hb (i := 1) rfl
  have d2 := row_cell hb (i := 2) rfl
  have d3 := row_cell hb (i := 3) rfl
  have d4 := row_cell hb (i := 4) rfl
  have d5 := row_cell hb (i := 5) rfl
  have d6 := row_cell hb (i := 6) rfl
  have d7 := row_cell hb (i := 7) rfl
  have d8 := row_cell hb (i := 8) rfl
  have d9 := row_cell hb (i := 9) rfl
  have hfin := Lib.hid (fun (e : Ending) (W : World) (h : FlagsEnd (flagsL ts l) (((w.alloc (.cells c.cells.toArray 27)).alloc (.cells c.cells.toArray 27)).alloc (.cells #[.slice A n cap] 28)) e W) => show FlagsEnd (flagsL ts l) w e W from by
    obtain ⟨p, cp, h, h1, h2, h3, h4⟩ := h
    exact ⟨p, cp, h, h1, h2, fun k hk => by have := h3 k hk; simp at this; omega, hO2.out.trans' h4⟩)
  simp only [alloc_size] at hcol hfl
  unfold ConfV.val at hfl ⊢
  unfold ConfV.cells at *
  clear hl hn hmax hfit hT hT9 hO hb hit hRD hO2
  go_enter Try.func7, Try.ntmps7
  go_wp2_with fail
  refine hfl.out.mono ?_
  rintro e w' ⟨rfl, rfl⟩
  go_wp2_with fail
  refine (collect_any _ _ hcol.out (fun e w' h => by obtain ⟨p, cp, h, rfl, -⟩ := h; exact ⟨_, _, _, rfl⟩)).mono ?_
  intro e w1 h
  have h1 := Lib.hid (hfin.out _ _ h)
  obtain ⟨p, cp, hh, rfl, -⟩ := h
  clear hfin
  go_wp2
  go_ret
  exact h1.out

theorem only_set (w : World) (b i : Nat) (v : Value) : Only (fun k => k = b) w (w.setCell ⟨b, i, none⟩ v) := Only.setCell (Only.refl (fun k => k = b) w) (p := ⟨b, i, none⟩) (fun _ => rfl) v
def firstV (l : List (Int × Int)) : Value := .tuple #[.agg #[.int .i64 (l.head?.getD (0, 0)).1, .int .i64 (l.head?.getD (0, 0)).2], .bool (!l.isEmpty)]
/-- Ahead of the first round: the results' cells as they were. -/
def GI (w : World) (B : Nat) (X : Nat → Prop) (pre : List (Int × Int)) (W : World) : Prop :=
  pre = [] ∧ W.heap[B]? = some (.cells #[.int .i64 0, .int .i64 0] 39 (0, 0)) ∧ W.heap[B + 1]? = some (.cells #[.bool false] 4 (0, 0)) ∧ ¬ X B ∧ ¬ X (B + 1) ∧ (∀ k, X k → w.heap.size ≤ k) ∧ Only (fun _ => False) w W
theorem GI.steady {w : World} {B : Nat} : Steady (GI w B) := by
  refine ⟨fun {X pre A C} h ho => ?_, fun {X X' pre A} hX h => ?_⟩
  · obtain ⟨h0, h1, h2, h3, h4, h5, h6⟩ := h
    have hl := row_lt h1
    have hl2 := row_lt h2
    have := h6.size
    refine ⟨h0, ho.heap h1 h3, ho.heap h2 h4, fun hx => ?_, fun hx => ?_, fun k hk => ?_, h6.trans ho (fun x hx h => by have := h5 x h; omega)⟩
    · rcases hx with hx | hx
      · exact h3 hx
      · omega
    · rcases hx with hx | hx
      · exact h4 hx
      · omega
    · rcases hk with hk | hk
      · exact h5 k hk
      · omega
  · obtain ⟨h0, h1, h2, h3, h4, h5, h6⟩ := h
    exact ⟨h0, h1, h2, fun hx => h3 (hX _ hx), fun hx => h4 (hX _ hx), fun k hk => h5 k (hX k hk), h6⟩
/-- Behind the return. -/
def GX (w : World) (B : Nat) (c : Code) (X : Nat → Prop) (pre : List (Int × Int)) (W : World) : Prop :=
  c = .ret ∧ ∃ a t, pre = [(a, t)] ∧ W.heap[B]? = some (.cells #[.int .i64 a, .int .i64 t] 39 (0, 0)) ∧ W.heap[B + 1]? = some (.cells #[.bool true] 4 (0, 0)) ∧ ¬ X B ∧ ¬ X (B + 1) ∧ (∀ k, X k → w.heap.size ≤ k) ∧ Only (fun _ => False) w W
theorem GX.steady {w : World} {B : Nat} (c : Code) : Steady (GX w B c) := by
  refine ⟨fun {X pre A C} h ho => ?_, fun {X X' pre A} hX h => ?_⟩
  · obtain ⟨hc, a, t, h0, h1, h2, h3, h4, h5, h6⟩ := h
    have hl := row_lt h1
    have hl2 := row_lt h2
    have := h6.size
    refine ⟨hc, a, t, h0, ho.heap h1 h3, ho.heap h2 h4, fun hx => ?_, fun hx => ?_, fun k hk => ?_, h6.trans ho (fun x hx h => by have := h5 x h; omega)⟩
    · rcases hx with hx | hx
      · exact h3 hx
      · omega
    · rcases hx with hx | hx
      · exact h4 hx
      · omega
    · rcases hk with hk | hk
      · exact h5 k hk
      · omega
  · obtain ⟨hc, a, t, h0, h1, h2, h3, h4, h5, h6⟩ := h
    exact ⟨hc, a, t, h0, h1, h2, fun hx => h3 (hX _ hx), fun hx => h4 (hX _ hx), fun k hk => h5 k (hX k hk), h6⟩

set_option maxRecDepth 100000 in
set_option maxHeartbeats 2000000 in
theorem first_any (hl : RecRow w A l) (hn : l.length = n) (hmax : n ≤ 1000000) (hfit : ∀ r ∈ l, fitR r) (hT : TasksAt w c.ta ts) (hT9 : c.ta.n ≤ 9223372036854775807) :
    Calls Try.prog 9 #[c.val, .slice A n cap] w fun e w' => e = .returned (firstV (flagsL ts l)) ∧ Only (fun _ => False) w w' := by
  obtain ⟨W3, hW3⟩ : ∃ W3, W3 = ((w.alloc (.cells c.cells.toArray 27)).alloc (.cells #[.int .i64 0, .int .i64 0] 39)).alloc (.cells #[.bool false] 4) := ⟨_, rfl⟩
  have hO : Only (fun _ => False) w W3 := by rw [hW3]; exact (((Only.refl _ w).alloc _).alloc _).alloc _
  have hb : W3.heap[w.heap.size]? = some (.cells c.cells.toArray 27 (0, 0)) := by rw [hW3]; exact heap_kept_alloc (heap_kept_alloc (heap_new_at _ _ rfl) _) _
  have hb1 : W3.heap[w.heap.size + 1]? = some (.cells #[.int .i64 0, .int .i64 0] 39 (0, 0)) := by rw [hW3]; exact heap_kept_alloc (heap_new_at _ _ (by simp)) _
  have hb2 : W3.heap[w.heap.size + 1 + 1]? = some (.cells #[.bool false] 4 (0, 0)) := by rw [hW3]; exact heap_new_at _ _ (by simp)
  have hs3 : W3.heap.size = w.heap.size + 3 := by rw [hW3]; simp
  obtain ⟨RD, hit, hRD⟩ := flags_made (w := W3) (cap := cap) (hl.new hO) hn hmax hfit (hT.new hO) hT9
  have hfl := Lib.hid (flags_any c A n cap W3)
  have hit' := Lib.hid hit
  have d0 := row_cell hb (i := 0) rfl
  have d1 := row_cell hb (i := 1) rfl
  have d2 := row_cell hb (i := 2) rfl
  have d3 := row_cell hb (i := 3) rfl
  have d4 := row_cell hb (i := 4) rfl
  have d5 := row_cell hb (i := 5) rfl
  have d6 := row_cell hb (i := 6) rfl
  have d7 := row_cell hb (i := 7) rfl
  have d8 := row_cell hb (i := 8) rfl
  have d9 := row_cell hb (i := 9) rfl
  have hO5 : Only (fun _ => False) W3 ((W3.alloc (.cells c.cells.toArray 27)).alloc (.cells #[.slice A n cap] 28)) := ((Only.refl _ W3).alloc _).alloc _
  have hs5 : ((W3.alloc (.cells c.cells.toArray 27)).alloc (.cells #[.slice A n cap] 28)).heap.size = W3.heap.size + 2 := by simp
  generalize hW5 : (W3.alloc (.cells c.cells.toArray 27)).alloc (.cells #[.slice A n cap] 28) = W5 at hit' hfl hO5 hs5
  clear hl hn hmax hfit hT hT9 hit hW5 hb
  obtain ⟨F, hF⟩ : ∃ F, F = flagsL ts l := ⟨_, rfl⟩
  rw [← hF] at hit' ⊢
  unfold ConfV.val at hfl ⊢
  unfold ConfV.cells at *
  clear hF
  have hW3' := Lib.hid hW3
  clear hW3
  refine callsIn_wide (n := 3) |>.1 ?_
  refine callsIn_of_wp_marks Try.func9 rfl trivial ?_ rfl
  simp only [Try.ntmps9, List.size_toArray, List.length_cons, List.length_nil, Nat.reduceAdd, Nat.reduceSub, Array.replicate_succ, Array.replicate_zero, List.push_toArray, List.append_toArray, List.nil_append, List.cons_append]
  gi_wp2_with fail
  rw [← hW3'.out]
  refine ⟨trivial, (callsIn_wide.2 hfl.out).mono ?_⟩
  rintro e V5 ⟨rfl, rfl⟩
  gi_wp2
  have hOW : Only (fun _ => False) w V5 := hO.trans' hO5
  have hB1 := hO5.heap hb1 (fun h => h)
  have hB2 := hO5.heap hb2 (fun h => h)
  have c1 := hB1
  rw [hs3] at hs5 hit'
  refine wpIn_range rfl (enters_of Try.func18 (by kernel_rfl) rfl) hit'.out (Only.refl _ V5) (fun k hk => by have := hRD k hk; omega) (fun _ => rfl)
    (GI w (w.heap.size + 1)) (GX w (w.heap.size + 1)) GI.steady GX.steady ⟨rfl, hB1, hB2, fun h => h, fun h => h, fun k hk => hk.elim, hOW⟩ ?round ?done ?stop
  case round =>
    intro l1 D X pre x W6 hl1 hD hXl hXD hl1' hD' hI hpre
    obtain ⟨fa, ft⟩ := x
    unfold encG
    gi_wp2
    refine ⟨(Only.refl _ _).alloc _, fun W7 hO7 hI7 => ?_⟩
    have hb := Lib.hid (hO7.heap (heap_new_at W6 (.cells [Value.int .i64 fa, .int .i64 ft].toArray 39) rfl) (by omega))
    clear hI hO7
    obtain ⟨rfl, g1, g2, g3, g4, g5, g6⟩ := hI7
    have hx := Lib.hid (And.intro g1 (And.intro g2 (And.intro g3 (And.intro g4 (And.intro g5 g6)))))
    have e0 := row_cell hb.out (i := 0) rfl
    have e1 := row_cell hb.out (i := 1) rfl
    have hlb := row_lt hb.out
    have q0 := row_cell (L := [Value.int .i64 0, .int .i64 0]) (i := 0) g1 rfl
    have q1 := row_cell (L := [Value.int .i64 0, .int .i64 0]) (i := 1) g1 rfl
    have q2 := row_cell (L := [Value.bool false]) (i := 0) g2 rfl
    have f0 := row_free (L := [Value.int .i64 0, .int .i64 0]) g1 0
    have f1 := row_free (L := [Value.int .i64 0, .int .i64 0]) g1 1
    have f2 := row_free (L := [Value.bool false]) g2 0
    have hl1 := row_lt g1
    have hl2 := row_lt g2
    clear g1 g2 g3 g4 g5 g6
    gi_wp2
    obtain ⟨g1, g2, g3, g4, g5, g6⟩ := hx.out
    have k1 := row_set (L := [Value.int .i64 0, .int .i64 0]) g1 0 (Value.int .i64 fa)
    have k2 := row_set (L := [Value.int .i64 fa, .int .i64 0]) k1 1 (Value.int .i64 ft)
    have o1 : Only (fun k => k = w.heap.size + 1) W7 (W7.setCell ⟨w.heap.size + 1, 0, none⟩ (.int .i64 fa)) := only_set _ _ _ _
    have o2 := Only.setCell o1 (p := ⟨w.heap.size + 1, 1, none⟩) (fun _ => rfl) (Value.int .i64 ft)
    have k3 := row_set (L := [Value.bool false]) (o2.heap g2 (by omega)) 0 (Value.bool true)
    generalize (W7.setCell ⟨w.heap.size + 1, 0, none⟩ (.int .i64 fa)).setCell ⟨w.heap.size + 1, 1, none⟩ (.int .i64 ft) = W8 at k2 k3 o2 ⊢
    have o3 : Only (fun k => k = w.heap.size + 1 + 1) W8 (W8.setCell ⟨w.heap.size + 1 + 1, 0, none⟩ (.bool true)) := only_set _ _ _ _
    refine ⟨(o2.mono (T := fun k => ¬ X k) (fun k _ e => e ▸ g3)).trans o3 (fun k _ e => e ▸ g4), rfl, fa, ft, rfl, o3.heap k2 (by omega), k3, g3, g4, g5, (g6.trans o2 (fun k hk e => by omega)).trans o3 (fun k hk e => by omega)⟩
  case done =>
    rintro D X W6 hD hXD ⟨hF, g1, g2, g3, g4, g5, g6⟩ hK
    have q0 := row_cell (L := [Value.int .i64 0, .int .i64 0]) (i := 0) g1 rfl
    have q1 := row_cell (L := [Value.int .i64 0, .int .i64 0]) (i := 1) g1 rfl
    have q2 := row_cell (L := [Value.bool false]) (i := 0) g2 rfl
    have f0 := row_free (L := [Value.int .i64 0, .int .i64 0]) g1 0
    have f1 := row_free (L := [Value.int .i64 0, .int .i64 0]) g1 1
    have f2 := row_free (L := [Value.bool false]) g2 0
    have hl1 := row_lt g1
    have hl2 := row_lt g2
    have hx := Lib.hid (And.intro g1 (And.intro g2 (And.intro g3 (And.intro g4 (And.intro g5 g6)))))
    clear g1 g2 g3 g4 g5 g6
    gi_wp2
    obtain ⟨g1, g2, g3, g4, g5, g6⟩ := hx.out
    have k1 := row_set (L := [Value.int .i64 0, .int .i64 0]) g1 0 (Value.int .i64 0)
    have k2 := row_set (L := [Value.int .i64 0, .int .i64 0]) k1 1 (Value.int .i64 0)
    have o1 : Only (fun k => k = w.heap.size + 1) W6 (W6.setCell ⟨w.heap.size + 1, 0, none⟩ (.int .i64 0)) := only_set _ _ _ _
    have o2 := Only.setCell o1 (p := ⟨w.heap.size + 1, 1, none⟩) (fun _ => rfl) (Value.int .i64 0)
    have k3 := row_set (L := [Value.bool false]) (o2.heap g2 (by omega)) 0 (Value.bool false)
    have hK2 := o2.heap hK (fun e => g3 (e ▸ hXD))
    generalize (W6.setCell ⟨w.heap.size + 1, 0, none⟩ (.int .i64 0)).setCell ⟨w.heap.size + 1, 1, none⟩ (.int .i64 0) = W8 at k2 k3 o2 hK2 ⊢
    have o3 : Only (fun k => k = w.heap.size + 1 + 1) W8 (W8.setCell ⟨w.heap.size + 1 + 1, 0, none⟩ (.bool false)) := only_set _ _ _ _
    have k4 := o3.heap k2 (by omega)
    have hK3 := o3.heap hK2 (fun e => g4 (e ▸ hXD))
    have g7 : Only (fun _ => False) w (W8.setCell ⟨w.heap.size + 1 + 1, 0, none⟩ (.bool false)) := (g6.trans o2 (fun k hk e => by omega)).trans o3 (fun k hk e => by omega)
    generalize W8.setCell ⟨w.heap.size + 1 + 1, 0, none⟩ (.bool false) = W9 at k3 k4 hK3 g7 ⊢
    refine ⟨by simp, .inl ⟨_, _, rfl, run_takeDeferred hK3, ?_⟩⟩
    have o4 := only_put W9 D (.deferred none)
    have m1 := o4.heap k4 (fun e => g3 (e ▸ hXD))
    have m2 := o4.heap k3 (fun e => g4 (e ▸ hXD))
    have m3 := g7.trans o4 (fun k hk e => by omega)
    generalize W9.putObj D (.deferred none) = V at m1 m2 m3 ⊢
    have p0 := row_cell (L := [Value.int .i64 0, .int .i64 0]) (i := 0) m1 rfl
    have p1 := row_cell (L := [Value.int .i64 0, .int .i64 0]) (i := 1) m1 rfl
    have p2 := row_cell (L := [Value.bool false]) (i := 0) m2 rfl
    refine ⟨.tuple #[.agg #[.int .i64 0, .int .i64 0], .bool false], by simp [results, Try.results9, go_sem, p0, p1, p2], ?_, m3⟩
    rw [hF]
    rfl
  case stop =>
    rintro D c' X pre W6 hD hXD hpre ⟨rfl, a, t, hF, g1, g2, g3, g4, g5, g6⟩ hK
    gi_wp2
    refine ⟨by simp, .inl ⟨_, _, rfl, run_takeDeferred hK, ?_⟩⟩
    have o4 := only_put W6 D (.deferred none)
    have m1 := o4.heap g1 (fun e => g3 (e ▸ hXD))
    have m2 := o4.heap g2 (fun e => g4 (e ▸ hXD))
    have m3 := g6.trans o4 (fun k hk e => by omega)
    generalize W6.putObj D (.deferred none) = V at m1 m2 m3 ⊢
    have p0 := row_cell (L := [Value.int .i64 a, .int .i64 t]) (i := 0) m1 rfl
    have p1 := row_cell (L := [Value.int .i64 a, .int .i64 t]) (i := 1) m1 rfl
    have p2 := row_cell (L := [Value.bool true]) (i := 0) m2 rfl
    refine ⟨.tuple #[.agg #[.int .i64 a, .int .i64 t], .bool true], by simp [results, Try.results9, go_sem, p0, p1, p2], ?_, m3⟩
    subst hF
    obtain ⟨r, hr⟩ := hpre
    rw [← hr]
    rfl
end
end Go.Proofs.Ythippdgmbfaijaa
