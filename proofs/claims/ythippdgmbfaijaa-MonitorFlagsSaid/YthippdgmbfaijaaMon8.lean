/- Gaps. -/
import Derived.Test.YthippdgmbfaijaaMon7
namespace Go.Proofs.Ythippdgmbfaijaa
open Go Go.RowKit Go.Maps Go.Shelf
attribute [local go_sem] Oper.semAt_some

theorem info3 : (Try.prog.info? 3).map (fun i => (i.zero, i.size, i.bytes)) = some (some (Value.int .i64 0), 1, 8) := by kernel_rfl
def gapOf (t : Int) (x : RecV × Int) : Option Int := if x.1.t = t then some x.2 else none
def gapsL (t : Int) (l : List (RecV × Int)) : List Int := l.filterMap (gapOf t)
def mkI (z : Int) : Value := .int .i64 z
theorem row_oneI {w : World} {X : Nat} {a : Value} {e : TypeId} (h : w.heap[X]? = some (.cells #[a] e (0, 0))) : ∀ j u, [a][j]? = some u → w.cell? ((⟨X, 0, none⟩ : Addr).add j) = some u := fun j u hu => by
  rw [Addr.add_lit, Nat.zero_add]
  exact row_cell (L := [a]) h hu

/-- The gaps so far, in a box B of the call's own. -/
def BI (w : World) (t : Int) (X : Nat → Prop) (pre : List (RecV × Int)) (W : World) : Prop :=
  ∃ (p : Option Addr) (cap : Nat) (h : Option Nat), W.heap[w.heap.size + 1]? = some (.cells #[.slice p (gapsL t pre).length cap] 24 (0, 0)) ∧ Win W 3 1 (.slice p (gapsL t pre).length cap) h (gapsL t pre).length ((gapsL t pre).map mkI) ∧ (∀ k, h = some k → w.heap.size + 3 ≤ k ∧ ¬ X k) ∧ ¬ X (w.heap.size + 1) ∧ (∀ k, X k → w.heap.size ≤ k ∧ k < W.heap.size) ∧ Only (fun _ => False) w W ∧ W.heap[w.heap.size]? = some (.cells #[.int .i64 t] 3 (0, 0)) ∧ ¬ X w.heap.size ∧ w.heap.size + 3 ≤ W.heap.size
theorem BI.steady {w : World} {t : Int} : Steady (BI w t) := by
  refine ⟨fun {X pre A C} h ho => ?_, fun {X X' pre A} hX h => ?_⟩
  · obtain ⟨p, cap, h, h1, h2, h3, h4, h5, h6, h7, h8, h9⟩ := h
    have hl := row_lt h1
    have hl7 := row_lt h7
    refine ⟨p, cap, h, ho.heap h1 h4, h2.kept ho (fun k hk => (h3 k hk).2), fun k hk => ⟨(h3 k hk).1, fun hx => ?_⟩, fun hx => ?_, fun k hk => ?_, h6.trans ho (fun x hx h => by have := (h5 x h).1; omega), ho.heap h7 h8, fun hx => ?_, Nat.le_trans h9 ho.size⟩
    · rcases hx with hx | hx
      · exact (h3 k hk).2 hx
      · have := h2.lt k hk
        omega
    · rcases hx with hx | hx
      · exact h4 hx
      · omega
    · have := ho.size
      have := h6.size
      rcases hk with hk | hk
      · have := h5 k hk
        omega
      · omega
    · rcases hx with hx | hx
      · exact h8 hx
      · omega
  · obtain ⟨p, cap, h, h1, h2, h3, h4, h5, h6, h7, h8, h9⟩ := h
    exact ⟨p, cap, h, h1, h2, fun k hk => ⟨(h3 k hk).1, fun hx => (h3 k hk).2 (hX k hx)⟩, fun hx => h4 (hX _ hx), fun k hk => h5 k (hX k hk), h6, h7, fun hx => h8 (hX _ hx), h9⟩
def IntsEnd (l : List Int) (w : World) (e : Ending) (w' : World) : Prop :=
  ∃ p cap h, e = .returned (.slice p l.length cap) ∧ Win w' 3 1 (.slice p l.length cap) h l.length (l.map mkI) ∧ (∀ k, h = some k → w.heap.size ≤ k) ∧ Only (fun _ => False) w w'

set_option maxRecDepth 100000 in
set_option maxHeartbeats 2000000 in
theorem gaps_any {w : World} {A : Option Addr} {n cap : Nat} {l : List RecV} (t : Int) (hl : RecRow w A l) (hn : l.length = n) (hmax : n ≤ 1000000) (hfit : ∀ r ∈ l, fitR r) :
    Calls Try.prog 8 #[.slice A n cap, .int .i64 t] w (IntsEnd (gapsL t (folL l)) w) := by
  obtain ⟨W2, hW2⟩ : ∃ W2, W2 = (w.alloc (.cells #[.int .i64 t] 3)).alloc (.cells #[.slice none 0 0] 24) := ⟨_, rfl⟩
  have hO : Only (fun _ => False) w W2 := by rw [hW2]; exact ((Only.refl _ w).alloc _).alloc _
  have hb0 : W2.heap[w.heap.size]? = some (.cells #[.int .i64 t] 3 (0, 0)) := by rw [hW2]; exact heap_kept_alloc (heap_new_at _ _ rfl) _
  have hb1 : W2.heap[w.heap.size + 1]? = some (.cells #[.slice none 0 0] 24 (0, 0)) := by rw [hW2]; exact heap_new_at _ _ (by simp)
  have hs2 : W2.heap.size = w.heap.size + 2 := by rw [hW2]; simp
  have hO3 : Only (fun _ => False) W2 (W2.alloc (.cells #[.slice A n cap] 28)) := (Only.refl _ W2).alloc _
  have hs3 : (W2.alloc (.cells #[.slice A n cap] 28)).heap.size = W2.heap.size + 1 := by simp
  have hit := followers_iter (w0 := W2.alloc (.cells #[.slice A n cap] 28)) (B := W2.heap.size) (n := n) (cap := cap) (A := A) (l := l) (row_cell (L := [.slice A n cap]) (i := 0) (heap_new_at _ _ rfl) rfl) (hl.new (hO.trans' hO3)) hn hmax hfit
  have hRD : ∀ k, RD W2.heap.size A n k → k ≤ W2.heap.size ∧ k ≠ w.heap.size ∧ k ≠ w.heap.size + 1 := fun k hk => by
    rcases hk with rfl | hk
    · omega
    · have := hl.lt (hn ▸ hk)
      omega
  have hfo := Lib.hid (followers_any A n cap W2)
  have hlen : (folL l).length ≤ 1000000 := Nat.le_trans (folU_len l _) (by omega)
  generalize hW3 : W2.alloc (.cells #[.slice A n cap] 28) = W3 at hit hfo hO3 hs3
  rw [hs2] at hit hRD hfo hs3
  have hit' := Lib.hid hit
  have hRD' := Lib.hid hRD
  have hlen' := Lib.hid hlen
  clear hl hn hmax hfit hit hW3 hRD hlen
  obtain ⟨F, hF⟩ : ∃ F, F = folL l := ⟨_, rfl⟩
  rw [← hF] at hit' hlen' ⊢
  clear hF
  have hW2' := Lib.hid hW2
  clear hW2
  refine callsIn_wide (n := 3) |>.1 ?_
  refine callsIn_of_wp_marks Try.func8 rfl trivial ?_ rfl
  simp only [Try.ntmps8, List.size_toArray, List.length_cons, List.length_nil, Nat.reduceAdd, Nat.reduceSub, Array.replicate_succ, Array.replicate_zero, List.push_toArray, List.append_toArray, List.nil_append, List.cons_append]
  gi_wp2_with fail
  rw [← hW2'.out]
  refine ⟨trivial, (callsIn_wide.2 hfo.out).mono ?_⟩
  rintro e V3 ⟨rfl, rfl⟩
  gi_wp2
  have hOW : Only (fun _ => False) w V3 := hO.trans' hO3
  have hB0 := hO3.heap hb0 (fun h => h)
  have hB1 := hO3.heap hb1 (fun h => h)
  refine wpIn_range rfl (enters_of Try.func19 (by kernel_rfl) rfl) hit'.out (Only.refl _ V3) (fun k hk => by have := (hRD'.out k hk).1; omega) (fun _ => rfl)
    (BI w t) (fun _ _ _ _ => False) BI.steady (fun _ => ⟨fun h _ => h, fun _ h => h⟩) ⟨none, 0, none, hB1, Win.nil _ _ _, (fun k hk => (by cases hk)), fun h => h, fun k hk => hk.elim, hOW, hB0, fun h => h, by omega⟩ ?round ?done ?stop
  case round =>
    intro l1 D X pre x W3 hl1 hD hXl hXD hl1' hD' hI hpre
    obtain ⟨⟨at_, kd, tk, jo, op, co, v⟩, gap⟩ := x
    unfold encF RecV.val
    gi_wp2
    refine ⟨(Only.refl _ _).alloc _, fun W4 hO4 hI4 => ?_⟩
    have hb := Lib.hid (hO4.heap (heap_new_at W3 (.cells [Value.int .i64 at_, .int .i64 kd, .int .i64 tk, .int .i64 jo, .int .i64 op, .int .i64 co, .int .i64 v].toArray 33) rfl) (by omega))
    clear hI hO4
    obtain ⟨p, cap, h, g1, g2, g3, g4, g5, g6, g7, g8, g9⟩ := hI4
    have c0 := row_cell (L := [Value.slice p (gapsL t pre).length cap]) (i := 0) g1 rfl
    have b0 := row_cell (L := [Value.int .i64 t]) (i := 0) g7 rfl
    have e2 := row_cell hb.out (i := 2) rfl
    have hlt := row_lt g1
    have hlb := row_lt hb.out
    have hx := Lib.hid (And.intro g1 (And.intro g2 (And.intro g3 (And.intro g4 (And.intro g5 (And.intro g6 (And.intro g7 (And.intro g8 g9))))))))
    have hpl := Lib.hid (show (gapsL t pre).length + 1 ≤ 1000000 by
      have h1 := hpre.length_le
      have h2 : (gapsL t pre).length ≤ pre.length := List.length_filterMap_le _ _
      have h3 := hlen'.out
      simp at h1
      omega)
    have hRX := Lib.hid (show ∀ k, (k = w.heap.size + 1 ∨ h = some k) → ¬ RD (w.heap.size + 2) A n k ∧ ¬ X k from fun k hk => by
      rcases hk with rfl | hk
      · exact ⟨fun hr => (hRD'.out _ hr).2.2 rfl, g4⟩
      · exact ⟨fun hr => by have := (hRD'.out _ hr).1; have := (g3 k hk).1; omega, (g3 k hk).2⟩)
    clear g1 g2 g3 g4 g5 g6 g7 g8 g9 hpre
    by_cases htk : tk = t
    · subst htk
      have hg := Lib.hid (show gapsL tk (pre ++ [((⟨at_, kd, tk, jo, op, co, v⟩ : RecV), gap)]) = gapsL tk pre ++ [gap] by unfold gapsL; rw [List.filterMap_append]; simp [gapOf])
      obtain ⟨G, hG⟩ : ∃ G, G = gapsL tk pre := ⟨_, rfl⟩
      rw [← hG] at hx hpl c0 hg
      obtain ⟨m, hm⟩ : ∃ m, m = G.length := ⟨_, rfl⟩
      rw [← hm] at hx hpl c0
      have hm' := Lib.hid hm
      clear hG hm
      gi_wp2_with (gi_at_builtin; refine wpListIn_append_win rfl _ _ 24 rfl 3 (Value.int .i64 0) 1 8 Try.underlying24 info3 rfl (by decide) rfl (hx.out.2.1.kept ((Only.refl (fun _ => False) W4).alloc _) (fun _ _ h => h)) _ 1 1 rfl [Value.int .i64 gap] rfl (fun _ => ⟨_, rfl, row_oneI (heap_new_at _ _ rfl)⟩) (by simp [Value.oneCell']) (by unfold maxLen; have := hpl.out; omega) (by have := hpl.out; omega) ?_; intro v4 w4 h4 hW4 hO4 hh4; obtain ⟨p4, c4, rfl, _, _⟩ := hW4.out.form; have hB4 := hO4.out.heap (heap_kept_alloc hx.out.1 _) (fun e => by have := (hx.out.2.2.1 _ e.symm).1; omega); have q0 := row_cell (L := [Value.slice p m cap]) (i := 0) hB4 rfl; have q1 := row_free (L := [Value.slice p m cap]) hB4 0; have hlt4 := row_lt hB4; have hB5 := Lib.hid (row_set (L := [Value.slice p m cap]) hB4 0 (Value.slice p4 (m + 1) c4)); clear hB4)
      obtain ⟨r1, r2, r3, r4, r5, r6, r7, r8, r9⟩ := hx.out
      have hA : Only (fun k => ¬ RD (w.heap.size + 2) A n k ∧ ¬ X k) W4 w4 := ((Only.refl _ W4).alloc _).trans hO4.out (fun k _ hk => hRX.out k (.inr hk.symm))
      have hA2 := Only.setCell hA (p := ⟨w.heap.size + 1, 0, none⟩) (fun _ => hRX.out _ (.inl rfl)) (Value.slice p4 (m + 1) c4)
      have hh : ∀ k, h4 = some k → w.heap.size + 3 ≤ k ∧ ¬ X k := fun k hk => by
        rcases hh4.out with rfl | ⟨g, hg, hge⟩
        · exact r3 k hk
        · rw [hg] at hk
          cases hk
          rw [alloc_size] at hge
          exact ⟨by omega, fun hx => by have := (r5 _ hx).2; omega⟩
      have hA3 : Only (fun k => k = w.heap.size + 1 ∨ some k = h) W4 (w4.setCell ⟨w.heap.size + 1, 0, none⟩ (Value.slice p4 (m + 1) c4)) := Only.setCell (((Only.refl _ W4).alloc _).trans hO4.out (fun k _ hk => .inr hk)) (p := ⟨w.heap.size + 1, 0, none⟩) (fun _ => .inl rfl) _
      refine ⟨hA2, p4, c4, h4, ?_, ?_, hh, r4, fun k hk => ⟨(r5 k hk).1, Nat.lt_of_lt_of_le (r5 k hk).2 hA2.size⟩, ?_, hA3.heap r7 ?_, r8, Nat.le_trans r9 hA2.size⟩
      · rw [hg.out, List.length_append, ← hm'.out]
        exact hB5.out
      · rw [hg.out, List.length_append, ← hm'.out, List.map_append]
        exact hW4.out.kept (only_set _ _ _ _) (fun k hk e => by have := (hh k hk).1; omega)
      · exact Only.setCell ((r6.alloc _).trans hO4.out (fun x hx e => by have := (r3 x e.symm).1; omega)) (p := ⟨w.heap.size + 1, 0, none⟩) (fun h => by have : w.heap.size + 1 < w.heap.size := h; omega) _
      · rintro (e | e)
        · omega
        · have := (r3 _ e.symm).1
          omega
    · have hg := Lib.hid (show gapsL t (pre ++ [((⟨at_, kd, tk, jo, op, co, v⟩ : RecV), gap)]) = gapsL t pre by unfold gapsL; rw [List.filterMap_append]; simp [gapOf, htk])
      have hne : (tk == t) = false := by simpa using htk
      gi_wp2
      refine ⟨Only.refl _ _, ?_⟩
      unfold BI
      rw [hg.out]
      exact ⟨p, cap, h, hx.out⟩
  case done =>
    intro D X W5 hD hXD hI hK
    obtain ⟨p, cap, h, g1, g2, g3, g4, g5, g6, g7, g8, g9⟩ := hI
    have c0 := row_cell (L := [Value.slice p (gapsL t F).length cap]) (i := 0) g1 rfl
    have hlt := row_lt g1
    have hfin := Lib.hid (show IntsEnd (gapsL t F) w (.returned (.slice p (gapsL t F).length cap)) (W5.putObj D (.deferred none)) from ⟨p, cap, h, rfl, g2.kept (only_put W5 D _) (fun k hk e => (g3 k hk).2 (e ▸ hXD)), fun k hk => by have := (g3 k hk).1; omega, g6.lay (fun hd => by have := (g5 D hXD).1; omega) _⟩)
    clear g1 g2 g3 g4 g5 g6 g7 g8 g9
    gi_wp2
    refine ⟨by simp, .inl ⟨_, _, rfl, run_takeDeferred hK, ?_⟩⟩
    refine ⟨_, results_tmp rfl _ _ _, ?_⟩
    exact hfin.out
  case stop =>
    intro D c' X pre W5 hD hXD hpre h
    exact h.elim
end Go.Proofs.Ythippdgmbfaijaa
