/- FramesPlay: the stack and the plain row of frames beside it. -/
import Derived.Test.YteniphdfhmbbeaaFixed15
import Derived.Test.YteniphdfhmbbeaaActs
namespace Go.Proofs.Yteniphdfhmbbeaa
open Go Go.RowKit

/-- The stack (fs) and the row (gs). -/
def F2 (w : World) (B b : Nat) (pk : Int) (fs gs : List Fr) (v : Value) (ws : World) : Prop :=
  ∃ o h, StAt ws b o pk fs ∧ Stand 0 fs ∧ (∀ k, fp b o k → B ≤ k) ∧ Only (fun x => B ≤ x) w ws ∧ Win ws 31 3 v h gs.length (frCells gs) ∧ (∀ g, h = some g → B ≤ g ∧ ¬ fp b o g)

section
variable {w ws w' : World} {B b : Nat} {pk : Int} {fs gs : List Fr} {v : Value} {x : Fr}
theorem F2.only (h : F2 w B b pk fs gs v ws) : Only (fun x => B ≤ x) w ws := by
  obtain ⟨_, _, _, _, _, h, _⟩ := h
  exact h
theorem F2.stand (h : F2 w B b pk fs gs v ws) : Stand 0 fs := by
  obtain ⟨_, _, _, h, _⟩ := h
  exact h
theorem F2.rung (h : F2 w B b pk fs gs v ws) : Rung w B b pk fs ws := by
  obtain ⟨o, _, h1, h2, h3, h4, _⟩ := h
  exact ⟨o, h1, h2, h3, h4⟩
theorem F2.win (h : F2 w B b pk fs gs v ws) : ∃ h, Win ws 31 3 v h gs.length (frCells gs) := by
  obtain ⟨o, h, h1, h2, h3, h4, h5, _⟩ := h
  exact ⟨h, h5⟩
theorem F2.new (h : F2 w B b pk fs gs v ws) (ho : Only (fun _ => False) ws w') : F2 w B b pk fs gs v w' := by
  obtain ⟨o, h, h1, h2, h3, h4, h5, h6⟩ := h
  exact ⟨o, h, h1.new ho, h2, h3, h4.trans ho (fun _ _ h => h.elim), h5.kept ho (fun _ _ h => h), h6⟩
theorem F2.start (h : Rung w B b pk fs ws) : F2 w B b pk fs [] (.slice none 0 0) ws := by
  obtain ⟨o, h1, h2, h3, h4⟩ := h
  exact ⟨o, none, h1, h2, h3, h4, Win.nil _ _ _, fun g hg => by cases hg⟩
/-- A block of neither the stack's type nor the frames' is none of theirs. -/
theorem StAt.typed {o : Option Nat} (h : StAt ws b o pk fs) {X : Nat} {c : Array Value} {t : TypeId} (hX : ws.heap[X]? = some (.cells c t (0, 0))) (h1 : t ≠ 43) (h2 : t ≠ 31) : ¬ fp b o X := by
  obtain ⟨u, q1, q2, q3⟩ := h
  rintro (rfl | hk)
  · rw [q1] at hX
    simp at hX
    exact h1 hX.2.symm
  · obtain ⟨_, _, _, _, _, _, a⟩ := q2
    rcases a with a | ⟨g, _, L, hg, _, hh, _⟩
    · rw [a.1] at hk; cases hk
    · rw [hg] at hk
      cases hk
      rw [hh] at hX
      simp at hX
      exact h2 hX.2.symm
theorem Win.typed {e : TypeId} {sz n : Nat} {u : Value} {h : Option Nat} {xs : List Value} (hW : Win ws e sz u h n xs) {X : Nat} {c : Array Value} {t : TypeId} (hX : ws.heap[X]? = some (.cells c t (0, 0))) (h1 : t ≠ e) : ¬ some X = h := by
  obtain ⟨_, _, _, _, _, _, a⟩ := hW
  rintro rfl
  rcases a with a | ⟨g, _, L, hg, _, hh, _⟩
  · cases a.1
  · cases hg
    rw [hh] at hX
    simp at hX
    exact h1 hX.2.symm
theorem F2.push (h : F2 w B b pk fs gs v ws) (hB : B ≤ ws.heap.size) (hn : fs.length ≤ 255) (who : Int) {size : Int} (h0 : 0 ≤ size) (h1 : size ≤ 4096) {X : Nat} {c : Array Value} (hX : ws.heap[X]? = some (.cells c 28 (0, 0))) :
    Calls Try.prog 8 #[.pointer (some ⟨b, 0, none⟩), .int .i64 who, .int .i64 size] ws fun e w' => e = .returned (.tuple #[.int .i64 (deep fs), .int .i64 0]) ∧ F2 w B b (max pk (deep fs + size)) (fs ++ [⟨who, deep fs, size⟩]) gs v w' ∧ w'.heap[X]? = some (.cells c 28 (0, 0)) := by
  obtain ⟨o, h, q1, q2, q3, q4, q5, q6⟩ := h
  refine (push_ok q1 q2 hn who h0 h1).mono fun e w' ⟨e1, o', e2, e3, e4⟩ => ⟨e1, ⟨o', h, e2, stand_append.2 ⟨q2, by simp [Stand]; omega⟩, ?_, q4.trans e4 (fun k _ hk => q3 k hk), q5.kept e4 (fun k hk => (q6 k hk).2), fun g hg => ⟨(q6 g hg).1, ?_⟩⟩, e4.heap hX (q1.typed hX (by decide) (by decide))⟩
  · rintro k (rfl | hk)
    · exact q3 k (.inl rfl)
    · rcases e3 with rfl | ⟨g, rfl, hg⟩
      · exact q3 k (.inr hk)
      · cases hk; omega
  · have hlt := q5.lt g hg
    rintro (rfl | hk)
    · exact (q6 _ hg).2 (.inl rfl)
    · rcases e3 with rfl | ⟨g', rfl, hg'⟩
      · exact (q6 g hg).2 (.inr hk)
      · cases hk; omega
theorem F2.pop (h : F2 w B b pk (fs ++ [x]) gs v ws) (hn : fs.length ≤ 1000) {who : Int} (hw : who = x.who) :
    Calls Try.prog 7 #[.pointer (some ⟨b, 0, none⟩), .int .i64 who] ws fun e w' => e = .returned (.int .i64 0) ∧ F2 w B b pk fs gs v w' := by
  obtain ⟨o, h, q1, q2, q3, q4, q5, q6⟩ := h
  subst hw
  exact (pop_ok q1 hn).mono fun e w' ⟨e1, e2, e3⟩ => ⟨e1, o, h, e2, (stand_append.1 q2).1, q3, q4.trans e3 (fun k _ hk => by subst hk; exact q3 _ (.inl rfl)), q5.kept e3 (fun k hk e => (q6 k hk).2 (.inl e)), q6⟩
theorem F2.popOther (h : F2 w B b pk (fs ++ [x]) gs v ws) (hn : fs.length ≤ 1000) {who : Int} (hw : x.who ≠ who) :
    Calls Try.prog 7 #[.pointer (some ⟨b, 0, none⟩), .int .i64 who] ws fun e w' => e = .returned (.int .i64 9) ∧ F2 w B b pk (fs ++ [x]) gs v w' := by
  have h' := h
  obtain ⟨o, _, q1, _⟩ := h'
  exact (pop_other (top_some q1 hn) hw).mono fun e w' ⟨e1, e2⟩ => ⟨e1, h.new e2⟩
theorem F2.popNone (h : F2 w B b pk [] gs v ws) (who : Int) :
    Calls Try.prog 7 #[.pointer (some ⟨b, 0, none⟩), .int .i64 who] ws fun e w' => e = .returned (.int .i64 8) ∧ F2 w B b pk [] gs v w' := by
  have h' := h
  obtain ⟨o, _, q1, _⟩ := h'
  exact (pop_none (top_none q1) who).mono fun e w' ⟨e1, e2⟩ => ⟨e1, h.new e2⟩
/-- The row's last one is taken off. -/
theorem F2.less {p : Option Addr} {n cap : Nat} (h : F2 w B b pk fs (gs ++ [x]) (.slice p n cap) ws) (hn : n = gs.length + 1) : F2 w B b pk fs gs (.slice p gs.length cap) ws := by
  obtain ⟨o, h, q1, q2, q3, q4, q5, q6⟩ := h
  have hl : (gs ++ [x]).length = n := by simp [hn]
  rw [hl] at q5
  have ht := q5.take (k := gs.length) (by omega)
  rw [frCells_append, List.take_left' (frCells_length gs)] at ht
  exact ⟨o, h, q1, q2, q3, q4, ht, q6⟩
/-- The parts, as the walk of an append needs them. -/
def F2P (w : World) (B b : Nat) (pk : Int) (fs gs : List Fr) (o h : Option Nat) (ws : World) : Prop :=
  StAt ws b o pk fs ∧ Stand 0 fs ∧ (∀ k, fp b o k → B ≤ k) ∧ Only (fun x => B ≤ x) w ws ∧ (∀ g, h = some g → B ≤ g ∧ ¬ fp b o g) ∧ B ≤ ws.heap.size
theorem F2.parts (h : F2 w B b pk fs gs v ws) (hB : B ≤ ws.heap.size) : ∃ o h, F2P w B b pk fs gs o h ws ∧ Win ws 31 3 v h gs.length (frCells gs) := by
  obtain ⟨o, h, q1, q2, q3, q4, q5, q6⟩ := h
  exact ⟨o, h, ⟨q1, q2, q3, q4, q6, hB⟩, q5⟩
theorem F2P.grow {o h h4 : Option Nat} {W w4 : World} {v4 : Value} {n : Nat} (q : F2P w B b pk fs gs o h ws) (hW : Only (fun _ => False) ws W) (hn : n = gs.length)
    (hW4 : Win w4 31 3 v4 h4 (n + 1) (frCells gs ++ x.cells)) (hO4 : Only (fun k => some k = h) W w4) (hh4 : h4 = h ∨ ∃ g, h4 = some g ∧ W.heap.size ≤ g) : F2 w B b pk fs (gs ++ [x]) v4 w4 := by
  obtain ⟨q1, q2, q3, q4, q6, hB⟩ := q
  have hs := hW.size
  refine ⟨o, h4, (q1.new hW).kept hO4 (fun k hk e => (q6 k e.symm).2 hk), q2, q3, (q4.trans hW (fun _ _ h => h.elim)).trans hO4 (fun k _ e => (q6 k e.symm).1), ?_, fun g hg => ?_⟩
  · rw [List.length_append, frCells_append, frCells_one, ← hn]
    exact hW4
  · rcases hh4 with rfl | ⟨g', rfl, hg'⟩
    · exact q6 g hg
    · cases hg
      refine ⟨by omega, fun hf => ?_⟩
      have := q1.lt g hf
      omega
theorem F2.top_none (h : F2 w B b pk [] gs v ws) : Calls Try.prog 10 #[.pointer (some ⟨b, 0, none⟩)] ws (TopEnd ws zfr false) := by
  obtain ⟨o, _, q1, _⟩ := h
  exact Yteniphdfhmbbeaa.top_none q1
theorem F2.top_some (h : F2 w B b pk (fs ++ [x]) gs v ws) (hn : fs.length ≤ 1000) : Calls Try.prog 10 #[.pointer (some ⟨b, 0, none⟩)] ws (TopEnd ws x true) := by
  obtain ⟨o, _, q1, _⟩ := h
  exact Yteniphdfhmbbeaa.top_some q1 hn
theorem F2.topOf (h : F2 w B b pk fs gs v ws) (hn : fs.length ≤ 1000) : ∃ f t, (∀ W, Only (fun _ => False) ws W → Calls Try.prog 10 #[.pointer (some ⟨b, 0, none⟩)] W (TopEnd W f t)) ∧ ((fs = [] ∧ t = false) ∨ ∃ r, fs = r ++ [f] ∧ t = true) := by
  rcases List.eq_nil_or_concat fs with rfl | ⟨r, x, rfl⟩
  · exact ⟨zfr, false, fun W hW => (h.new hW).top_none, .inl ⟨rfl, rfl⟩⟩
  · rw [List.concat_eq_append] at h hn ⊢
    exact ⟨x, true, fun W hW => (h.new hW).top_some (by simp at hn; omega), .inr ⟨r, rfl, rfl⟩⟩
end

theorem open_acts15 {H : Type} {enc : TypeId × Value → H} {w : World} {a : Option Addr} {len cap : Nat} {d : DataW H} {ps : List MemPlace} (h : DataW.Trod enc Try.prog w 0 (fun _ => true) true 22 (.slice a len cap) d ps) :
    ∃ z : Nat → Nat → Value, Acts w a len [.bool, .int .i64, .int .i64] z := by
  have cI : Try.prog.cellsOf 3 = 1 := by kernel_rfl
  have cB : Try.prog.cellsOf 4 = 1 := by kernel_rfl
  have c28 : Try.prog.cellsOf 28 = 3 := by kernel_rfl
  refine open_acts [.bool, .int .i64, .int .i64] Try.underlying22 Try.underlying28 c28 rfl (by decide) (fun i f hi => ?_) h
  match i with
  | 0 => cases hi; exact ⟨rfl, cB, Try.underlying4⟩
  | 1 => cases hi; exact ⟨rfl, cI, Try.underlying3⟩
  | 2 => cases hi; exact ⟨rfl, cI, Try.underlying3⟩
  | i + 3 => simp at hi
end Go.Proofs.Yteniphdfhmbbeaa
