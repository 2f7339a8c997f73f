/- What is collected of an iterator: slices.AppendSeq, All. -/
import Derived.Test.YthippdgmbfaijaaMon5
import Derived.Test.YthippdgmbfaijaaWinIn
namespace Go.Proofs.Ythippdgmbfaijaa
open Go Go.RowKit Go.Maps Go.Shelf
attribute [local go_sem] Oper.semAt_some

theorem info39 : (Try.prog.info? 39).map (fun i => (i.zero, i.size, i.bytes)) = some (some (Value.agg #[.int .i64 0, .int .i64 0]), 2, 16) := by kernel_rfl
def flagCells (l : List (Int × Int)) : List Value := l.flatMap fun f => [.int .i64 f.1, .int .i64 f.2]
theorem flagCells_snoc (l : List (Int × Int)) (f : Int × Int) : flagCells (l ++ [f]) = flagCells l ++ [.int .i64 f.1, .int .i64 f.2] := by simp [flagCells]
/-- A slice that was appended to, in a box B of the call's own; all of it is new. -/
def AI (w : World) (B : Nat) (X : Nat → Prop) (pre : List (Int × Int)) (W : World) : Prop :=
  ∃ (p : Option Addr) (cap : Nat) (h : Option Nat), W.heap[B]? = some (.cells #[.slice p pre.length cap] 30 (0, 0)) ∧ Win W 39 2 (.slice p pre.length cap) h pre.length (flagCells pre) ∧ (∀ k, h = some k → w.heap.size ≤ k ∧ k ≠ B ∧ ¬ X k) ∧ ¬ X B ∧ (∀ k, X k → w.heap.size ≤ k ∧ k < W.heap.size) ∧ Only (fun _ => False) w W
theorem AI.steady {w : World} {B : Nat} : Steady (AI w B) := by
  refine ⟨fun {X pre A C} h ho => ?_, fun {X X' pre A} hX h => ?_⟩
  · obtain ⟨p, cap, h, h1, h2, h3, h4, h5, h6⟩ := h
    have hl := row_lt h1
    refine ⟨p, cap, h, ho.heap h1 h4, h2.kept ho (fun k hk => (h3 k hk).2.2), fun k hk => ⟨(h3 k hk).1, (h3 k hk).2.1, fun hx => ?_⟩, fun hx => ?_, fun k hk => ?_, h6.trans ho (fun x hx h => by have := (h5 x h).1; omega)⟩
    · rcases hx with hx | hx
      · exact (h3 k hk).2.2 hx
      · have := h2.lt k hk
        omega
    · rcases hx with hx | hx
      · exact h4 hx
      · omega
    · have := ho.size
      have := h6.size
      rcases hk with hk | hk
      · have := h5 k hk
        omega
      · omega
  · obtain ⟨p, cap, h, h1, h2, h3, h4, h5, h6⟩ := h
    exact ⟨p, cap, h, h1, h2, fun k hk => ⟨(h3 k hk).1, (h3 k hk).2.1, fun hx => (h3 k hk).2.2 (hX k hx)⟩, fun hx => h4 (hX _ hx), fun k hk => h5 k (hX k hk), h6⟩
def FlagsEnd (l : List (Int × Int)) (w : World) (e : Ending) (w' : World) : Prop :=
  ∃ p cap h, e = .returned (.slice p l.length cap) ∧ Win w' 39 2 (.slice p l.length cap) h l.length (flagCells l) ∧ (∀ k, h = some k → w.heap.size ≤ k) ∧ Only (fun _ => False) w w'

set_option maxRecDepth 100000 in
set_option maxHeartbeats 2000000 in
theorem appendSeq_any {w : World} {gf : Nat} {lb : Array Value} {xs : List (Int × Int)} {RD : Nat → Prop} (hit : Iterates Try.prog gf lb encG xs RD w) (hRD : ∀ k, RD k → k < w.heap.size) (eg : ∀ args w, (callFunc gf args).run Try.prog w = .ok (.enter gf args) w) (hlen : xs.length ≤ 1000000) :
    Calls Try.prog 17 #[.slice none 0 0, .func (.func gf) #[] lb] w (FlagsEnd xs w) := by
  have hit' := Lib.hid hit
  have hRD' := Lib.hid hRD
  have eg' := Lib.hid eg
  clear hit hRD eg
  refine callsIn_wide (n := 3) |>.1 ?_
  refine callsIn_of_wp_marks Try.func17 rfl trivial ?_ rfl
  simp only [Try.ntmps17, List.size_toArray, List.length_cons, List.length_nil, Nat.reduceAdd, Nat.reduceSub, Array.replicate_succ, Array.replicate_zero, List.push_toArray, List.append_toArray, List.nil_append, List.cons_append]
  gi_wp2
  have hO : Only (fun _ => False) w (w.alloc (.cells #[.slice none 0 0] 30)) := (Only.refl _ w).alloc _
  have hB : (w.alloc (.cells #[.slice none 0 0] 30)).heap[w.heap.size]? = some (.cells #[.slice none 0 0] 30 (0, 0)) := heap_new_at _ _ rfl
  have hsz : (w.alloc (.cells #[.slice none 0 0] 30)).heap.size = w.heap.size + 1 := by simp
  generalize w.alloc (.cells #[.slice none 0 0] 30) = W1 at hO hB hsz ⊢
  refine wpIn_range rfl eg'.out (hit'.out.later (hO.mono (fun _ _ h => h.elim))) (Only.refl _ W1) (fun k hk => by have := hRD'.out k hk; omega) (fun _ => rfl)
    (AI w w.heap.size) (fun _ _ _ _ => False) AI.steady (fun _ => ⟨fun h _ => h, fun _ h => h⟩) ⟨none, 0, none, hB, Win.nil _ _ _, (fun k hk => (by cases hk)), fun h => h, fun k hk => hk.elim, hO⟩ ?round ?done ?stop
  case round =>
    intro l1 D X pre x W3 hl1 hD hXl hXD hl1' hD' hI hpre
    obtain ⟨fa, ft⟩ := x
    unfold encG
    gi_wp2
    refine ⟨(Only.refl _ _).alloc _, fun W4 hO4 hI4 => ?_⟩
    have hb := Lib.hid (hO4.heap (heap_new_at W3 (.cells [Value.int .i64 fa, .int .i64 ft].toArray 39) rfl) (by omega))
    clear hI hO4
    obtain ⟨p, cap, h, g1, g2, g3, g4, g5, g6⟩ := hI4
    have c0 := row_cell (L := [Value.slice p pre.length cap]) (i := 0) g1 rfl
    have e0 := row_cell hb.out (i := 0) rfl
    have e1 := row_cell hb.out (i := 1) rfl
    have hlt := row_lt g1
    have hlb := row_lt hb.out
    have hx := Lib.hid (And.intro g1 (And.intro g2 (And.intro g3 (And.intro g4 (And.intro g5 g6)))))
    have hpl := Lib.hid (show pre.length + 1 ≤ 1000000 by have := hpre.length_le; simp at this; omega)
    have hRX := Lib.hid (show ∀ k, (k = w.heap.size ∨ h = some k) → ¬ RD k ∧ ¬ X k from fun k hk => by
      rcases hk with rfl | hk
      · exact ⟨fun hr => by have := hRD'.out _ hr; omega, g4⟩
      · exact ⟨fun hr => by have := hRD'.out _ hr; have := (g3 k hk).1; omega, (g3 k hk).2.2⟩)
    clear g1 g2 g3 g4 g5 g6 hpre
    obtain ⟨n, hn⟩ : ∃ n, n = pre.length := ⟨_, rfl⟩
    rw [← hn] at hx hpl c0
    have hn' := Lib.hid hn
    clear hn
    gi_wp2_with (gi_at_builtin; refine wpListIn_append_win rfl _ _ 30 rfl 39 (Value.agg #[.int .i64 0, .int .i64 0]) 2 16 Try.underlying30 info39 rfl (by decide) rfl (hx.out.2.1.kept ((Only.refl (fun _ => False) W4).alloc _) (fun _ _ h => h)) _ 1 1 rfl [Value.int .i64 fa, Value.int .i64 ft] rfl (fun _ => ⟨_, rfl, row_two (heap_new_at _ _ rfl)⟩) (by simp [Value.oneCell']) (by unfold maxLen; have := hpl.out; omega) (by have := hpl.out; omega) ?_; intro v4 w4 h4 hW4 hO4 hh4; obtain ⟨p4, c4, rfl, _, _⟩ := hW4.out.form; have hB4 := hO4.out.heap (heap_kept_alloc hx.out.1 _) (fun e => (hx.out.2.2.1 _ e.symm).2.1 rfl); have q0 := row_cell (L := [Value.slice p n cap]) (i := 0) hB4 rfl; have q1 := row_free (L := [Value.slice p n cap]) hB4 0; have hlt4 := row_lt hB4; have hB5 := Lib.hid (row_set (L := [Value.slice p n cap]) hB4 0 (Value.slice p4 (n + 1) c4)); clear hB4)
    obtain ⟨r1, r2, r3, r4, r5, r6⟩ := hx.out
    have hA : Only (fun k => ¬ RD k ∧ ¬ X k) W4 w4 := ((Only.refl _ W4).alloc _).trans hO4.out (fun k _ hk => hRX.out k (.inr hk.symm))
    have hA2 := Only.setCell hA (p := ⟨w.heap.size, 0, none⟩) (fun _ => hRX.out _ (.inl rfl)) (Value.slice p4 (n + 1) c4)
    have hS : w.heap.size ≤ W4.heap.size := r6.size
    have hh : ∀ k, h4 = some k → w.heap.size ≤ k ∧ k ≠ w.heap.size ∧ ¬ X k := fun k hk => by
      rcases hh4.out with rfl | ⟨g, hg, hge⟩
      · exact r3 k hk
      · rw [hg] at hk
        cases hk
        have h1 := row_lt r1
        rw [alloc_size] at hge
        exact ⟨by omega, by omega, fun hx => by have := (r5 _ hx).2; omega⟩
    refine ⟨hA2, p4, c4, h4, ?_, ?_, hh, r4, fun k hk => ⟨(r5 k hk).1, Nat.lt_of_lt_of_le (r5 k hk).2 hA2.size⟩, ?_⟩
    · rw [List.length_append, ← hn'.out]
      exact hB5.out
    · rw [List.length_append, ← hn'.out, flagCells_snoc]
      exact hW4.out.kept ((Only.refl (fun k => k = w.heap.size) w4).setCell (p := ⟨w.heap.size, 0, none⟩) (fun _ => rfl) _) (fun k hk e => (hh k hk).2.1 e)
    · exact Only.setCell ((r6.alloc _).trans hO4.out (fun x hx e => by have := (r3 x e.symm).1; omega)) (p := ⟨w.heap.size, 0, none⟩) (fun h => absurd h (Nat.lt_irrefl _)) _
  case done =>
    intro D X W5 hD hXD hI hK
    obtain ⟨p, cap, h, g1, g2, g3, g4, g5, g6⟩ := hI
    have c0 := row_cell (L := [Value.slice p xs.length cap]) (i := 0) g1 rfl
    have hlt := row_lt g1
    have hfin := Lib.hid (show FlagsEnd xs w (.returned (.slice p xs.length cap)) (W5.putObj D (.deferred none)) from ⟨p, cap, h, rfl, g2.kept (only_put W5 D _) (fun k hk e => (g3 k hk).2.2 (e ▸ hXD)), fun k hk => (g3 k hk).1, g6.lay (fun hd => by have := (g5 D hXD).1; omega) _⟩)
    clear g1 g2 g3 g4 g5 g6
    gi_wp2
    refine ⟨by simp, .inl ⟨_, _, rfl, run_takeDeferred hK, ?_⟩⟩
    refine ⟨_, results_tmp rfl _ _ _, ?_⟩
    exact hfin.out
  case stop =>
    intro D c' X pre W5 hD hXD hpre h
    exact h.elim
end Go.Proofs.Ythippdgmbfaijaa
