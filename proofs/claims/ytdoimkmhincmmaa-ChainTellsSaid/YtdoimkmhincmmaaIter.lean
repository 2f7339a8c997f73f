/- A range over a function: what an iterator owes to any loop body, and what a loop owes to any iterator, by which blocks each of the two may change. Speaks of no program. -/
import Derived.RangeFuncNested
import Derived.RangeFuncBound
import Derived.RangeFuncCalls
import Derived.RangeFuncLeaves
import Derived.Shelf.Abstract
import Derived.OwnWalkIn
import Derived.TacticsInMore
import Derived.LoopNIn
import Derived.LoopIn
import Derived.Test.YtdoimkmhincmmaaMem
namespace Go.Proofs.Ytdoimkmhincmmaa
open Go Go.RowKit
section
variable {P : Program} {α : Type}

/-- What holds between two rounds bears whatever changes blocks that are not its own (X), and blocks that come. -/
structure Steady (J : (Nat → Prop) → List α → World → Prop) : Prop where
  step : ∀ {X : Nat → Prop} {pre : List α} {A B : World}, J X pre A → Only X A B → J (fun k => X k ∨ (A.heap.size ≤ k ∧ k < B.heap.size)) pre B
  mono : ∀ {X X' : Nat → Prop} {pre : List α} {A : World}, (∀ k, X k → X' k) → J X' pre A → J X pre A
theorem Steady.same {J : (Nat → Prop) → List α → World → Prop} (h : Steady J) {X : Nat → Prop} {pre : List α} {A B : World} (j : J X pre A) (o : Only X A B) : J X pre B :=
  h.mono (fun _ hk => .inl hk) (h.step j o)

/-- AN ITERATOR: its values are xs, in order. RD: the blocks that it reads: no round that goes on changes them, nor those that the iterator has laid itself. -/
def Iterates (P : Program) (gf : Nat) (lb : Array Value) (encs : α → Array Value) (xs : List α) (RD : Nat → Prop) (w0 : World) : Prop :=
  ∀ (l : Nat) (J Jx : (Nat → Prop) → List α → World → Prop) (W : World), Only (fun k => ¬ RD k) w0 W → Steady J → Steady Jx →
    (∀ X pre x W1, J X pre W1 → (pre ++ [x]) <+: xs → YieldAt Fence.wide 3 P l (encs x) W1 fun e W' =>
      (e = .returned (.bool true) ∧ J X (pre ++ [x]) W' ∧ Only (fun k => ¬ RD k ∧ ¬ X k) W1 W') ∨ (e = .returned (.bool false) ∧ Jx X (pre ++ [x]) W' ∧ Only (fun k => ¬ X k) W1 W')) →
    J (fun _ => False) [] W →
    Calls P gf (#[.func (.yield l) #[] #[]] ++ lb) W fun e W' => (∃ v, e = .returned v) ∧ ((∃ X, J X xs W') ∨ ∃ X pre, pre <+: xs ∧ Jx X pre W')
theorem Iterates.later {gf : Nat} {lb : Array Value} {encs : α → Array Value} {xs : List α} {RD : Nat → Prop} {w0 w1 : World} (h : Iterates P gf lb encs xs RD w0) (ho : Only (fun k => ¬ RD k) w0 w1) : Iterates P gf lb encs xs RD w1 :=
  fun l J Jx W hW hJ hJx hY h0 => h l J Jx W (ho.trans' hW) hJ hJx hY h0

/-- How a round may end. -/
def roundEnd (RD X : Nat → Prop) (_l _D : Nat) (I : (Nat → Prop) → List α → World → Prop) (Ix : Code → (Nat → Prop) → List α → World → Prop) (pre : List α) (W : World) : Exit → Act → World → Prop
  | .normal, _, W' => Only (fun k => ¬ RD k ∧ ¬ X k) W W' ∧ I X pre W'
  | .ret, _, W' => Only (fun k => ¬ X k) W W' ∧ Ix .ret X pre W'
  | .exit id, _, W' => Only (fun k => ¬ X k) W W' ∧ Ix (.exit id) X pre W'
  | .goto t, _, W' => Only (fun k => ¬ X k) W W' ∧ Ix (.goto t) X pre W'
  | .panic _, _, _ => False
  | .outgrown, _, _ => False

theorem only_put (W : World) (l : Nat) (o : Obj) : Only (fun k => k = l) W (W.putObj l o) :=
  ⟨rfl, rfl, rfl, by simp, fun k _ hk => World.putObj_heap_other (fun e => hk (by rw [e]))⟩
theorem Only.lay {S : Nat → Prop} {a w : World} (h : Only S a w) {l : Nat} (hl : l < a.heap.size → S l) (o : Obj) : Only S a (w.putObj l o) :=
  h.trans (only_put w l o) fun k hk e => by subst e; exact hl hk

/-- THE LOOP. -/
theorem wpIn_range {g : Operand} {ps : Array Tmp} {assign body : Code} {Q : Exit → Act → World → Prop} {a : Act} {w : World} {gf : Nat} {lb : Array Value} {encs : α → Array Value} {xs : List α} {RD : Nat → Prop} {w0 : World}
    (hg : a.eval g = .func (.func gf) #[] lb) (eg : ∀ args w, (callFunc gf args).run P w = .ok (.enter gf args) w)
    (hit : Iterates P gf lb encs xs RD w0) (h0 : Only (fun k => ¬ RD k) w0 w) (hRD : ∀ k, RD k → k < w.heap.size) (hps : ∀ x, (encs x).size = ps.size)
    (I : (Nat → Prop) → List α → World → Prop) (Ix : Code → (Nat → Prop) → List α → World → Prop) (hI : Steady I) (hIx : ∀ c, Steady (Ix c)) (hi : I (fun _ => False) [] w)
    (hround : ∀ (l D : Nat) (X : Nat → Prop) (pre : List α) (x : α) (W : World), w.heap.size ≤ l → w.heap.size ≤ D → X l → X D → l < W.heap.size → D < W.heap.size → I X pre W → (pre ++ [x]) <+: xs →
      assign.wpIn (Fence.wide.inRound l) 3 P (Exit.then (fun a₁ W₁ => Only (fun _ => False) W W₁ ∧ ∀ W₂, Only (fun k => k = l) W₁ W₂ → I X pre W₂ →
        body.wpIn (Fence.wide.inRound l) 3 P (roundEnd RD X l D I Ix (pre ++ [x]) W₂) a₁ W₂) (fun _ _ _ => False)) { tmps := (ps.zip (encs x)).foldl (fun t (p, v) => t.setIfInBounds p v) a.tmps, defers := [] } W)
    (hdone : ∀ (D : Nat) (X : Nat → Prop) (W : World), w.heap.size ≤ D → X D → I X xs W → W.heap[D]? = some (.deferred (some [])) → Q .normal { a with defers := { target := .collected D, args := #[] } :: a.defers } W)
    (hstop : ∀ (D : Nat) (c : Code) (X : Nat → Prop) (pre : List α) (W : World), w.heap.size ≤ D → X D → pre <+: xs → Ix c X pre W → W.heap[D]? = some (.deferred (some [])) → c.wpIn Fence.wide 3 P Q { a with defers := { target := .collected D, args := #[] } :: a.defers } W) :
    (Code.rangeFunc g ps assign body).wpIn Fence.wide 3 P Q a w := by
  refine wpIn_rangeFunc ?_
  intro fn hfn
  obtain ⟨rc, hrc⟩ : ∃ rc : LoopState → Option Code → Loop, rc = fun st pe => { state := st, pending := pe, fn, tmps := a.tmps, params := ps, assign, body, defers := w.heap.size } := ⟨_, rfl⟩
  obtain ⟨W1, hW1⟩ : ∃ W1, (w.alloc (.deferred (some []))).alloc (.loop (rc .ready none)) = W1 := ⟨_, rfl⟩
  have hS1 : W1.heap.size = w.heap.size + 2 := by rw [← hW1]; simp
  have oW : Only (fun _ => False) w W1 := by rw [← hW1]; exact ((Only.refl _ w).alloc _).alloc _
  have hL1 : W1.heap[w.heap.size + 1]? = some (.loop (rc .ready none)) := by rw [← hW1]; exact heap_new_at _ _ (by simp)
  have hD1 : W1.heap[w.heap.size]? = some (.deferred (some [])) := by rw [← hW1]; exact heap_kept_alloc (heap_new_at _ _ rfl) _
  refine ⟨w.heap.size + 1, [{ target := .collected w.heap.size, args := #[] }], W1, { target := .fn (.func gf) lb, args := #[.func (.yield (w.heap.size + 1)) #[] #[]] }, W1, gf,
    #[.func (.yield (w.heap.size + 1)) #[] #[]] ++ lb, W1, ?_, ?_, fun _ _ => trivial, ?_, fun _ => by omega, ?_⟩
  · rw [← hW1, hrc]; exact run_enterLoop_outer _ _ _ _ _
  · simp only [resolve, hg]
    simp [go_sem]
  · simp [invoke, go_sem, eg]
  refine callsIn_wide.2 ?_
  -- what the iterator is told to keep
  let B (X : Nat → Prop) : Nat → Prop := fun k => X k ∨ k = w.heap.size + 1 ∨ k = w.heap.size
  have hB : ∀ X, ∀ k, X k → B X k := fun X k h => .inl h
  refine (hit (w.heap.size + 1)
    (fun X pre W => I (B X) pre W ∧ (¬ X (w.heap.size + 1) ∧ ¬ X w.heap.size) ∧ W.heap[w.heap.size + 1]? = some (.loop (rc .ready none)) ∧ W.heap[w.heap.size]? = some (.deferred (some [])))
    (fun X pre W => ∃ c, Ix c (B X) pre W ∧ (¬ X (w.heap.size + 1) ∧ ¬ X w.heap.size) ∧ W.heap[w.heap.size + 1]? = some (.loop (rc .done (some c))) ∧ W.heap[w.heap.size]? = some (.deferred (some [])))
    W1 (h0.trans oW (fun _ _ h => h.elim)) ?_ ?_ ?_ ?_).mono ?_
  · refine ⟨fun {X pre A C} hj ho => ?_, fun {X X' pre A} hX hj => ?_⟩
    · obtain ⟨h1, ⟨h2, h3⟩, h4, h5⟩ := hj
      have l4 := row_lt h4
      have l5 := row_lt h5
      refine ⟨hI.mono (fun k hk => ?_) (hI.step h1 (ho.mono fun x _ hx => hB X x hx)), ⟨fun h => ?_, fun h => ?_⟩, ho.heap h4 h2, ho.heap h5 h3⟩
      · rcases hk with (hk | hk) | hk
        · exact .inl (.inl hk)
        · exact .inr hk
        · exact .inl (.inr hk)
      · rcases h with h | h
        · exact h2 h
        · omega
      · rcases h with h | h
        · exact h3 h
        · omega
    · obtain ⟨h1, ⟨h2, h3⟩, h4, h5⟩ := hj
      exact ⟨hI.mono (fun k hk => Or.elim hk (fun h => Or.inl (hX k h)) Or.inr) h1, ⟨fun h => h2 (hX _ h), fun h => h3 (hX _ h)⟩, h4, h5⟩
  · refine ⟨fun {X pre A C} hj ho => ?_, fun {X X' pre A} hX hj => ?_⟩
    · obtain ⟨c, h1, ⟨h2, h3⟩, h4, h5⟩ := hj
      have l4 := row_lt h4
      have l5 := row_lt h5
      refine ⟨c, (hIx c).mono (fun k hk => ?_) ((hIx c).step h1 (ho.mono fun x _ hx => hB X x hx)), ⟨fun h => ?_, fun h => ?_⟩, ho.heap h4 h2, ho.heap h5 h3⟩
      · rcases hk with (hk | hk) | hk
        · exact .inl (.inl hk)
        · exact .inr hk
        · exact .inl (.inr hk)
      · rcases h with h | h
        · exact h2 h
        · omega
      · rcases h with h | h
        · exact h3 h
        · omega
    · obtain ⟨c, h1, ⟨h2, h3⟩, h4, h5⟩ := hj
      exact ⟨c, (hIx c).mono (fun k hk => Or.elim hk (fun h => Or.inl (hX k h)) Or.inr) h1, ⟨fun h => h2 (hX _ h), fun h => h3 (hX _ h)⟩, h4, h5⟩
  · -- one round
    rintro X pre x W ⟨hi, ⟨hx1, hx2⟩, hl, hd⟩ hpre
    have ll := row_lt hl
    have ld := row_lt hd
    have hy := run_yield (P := P) (args := encs x) hl (by rw [hrc]; exact hps x)
    rw [hrc] at hy
    refine ⟨fn, _, assign, body, hy, roundIn_of_wpIn trivial (wpIn_mono (hround _ _ (B X) pre x W (by omega) (Nat.le_refl _) (.inr (.inl rfl)) (.inr (.inr rfl)) ll ld hi hpre) ?_)⟩
    clear hy
    rintro e a1 Wa hp
    cases e with
    | normal =>
      obtain ⟨oa, hp⟩ := hp
      have hla := oa.heap hl (fun h => h)
      have hda := oa.heap hd (fun h => h)
      have lla := row_lt hla
      refine ⟨_, run_beginRound hla (by rw [hrc]), ?_⟩
      have ob := only_put Wa (w.heap.size + 1) (.loop { rc .ready none with state := .busy })
      have hlb : (Wa.putObj (w.heap.size + 1) (.loop { rc .ready none with state := .busy })).heap[w.heap.size + 1]? = some (.loop { rc .ready none with state := .busy }) := World.putObj_heap_same lla
      have hdb := ob.heap hda (by omega)
      have oab : Only (fun k => k = w.heap.size + 1) W (Wa.putObj (w.heap.size + 1) (.loop { rc .ready none with state := .busy })) := (oa.mono (fun _ _ h => h.elim)).trans' ob
      refine wpIn_mono (hp _ ob (hI.same hi (oab.mono fun k _ e => .inr (.inl e)))) ?_
      clear hp
      generalize Wa.putObj (w.heap.size + 1) (.loop { rc .ready none with state := .busy }) = Wb at hlb hdb oab
      have fin : ∀ (jump : Option Code) (W3 : World), W3.heap[w.heap.size + 1]? = some (.loop { rc .ready none with state := .busy }) → W3.heap[w.heap.size]? = some (.deferred (some [])) →
          (Instr.endRound (w.heap.size + 1) jump).run P W3 = .ok (.bool jump.isNone) (W3.putObj (w.heap.size + 1) (.loop (rc (if jump.isNone then .ready else .done) jump))) ∧
          (W3.putObj (w.heap.size + 1) (.loop (rc (if jump.isNone then .ready else .done) jump))).heap[w.heap.size + 1]? = some (.loop (rc (if jump.isNone then .ready else .done) jump)) ∧
          (W3.putObj (w.heap.size + 1) (.loop (rc (if jump.isNone then .ready else .done) jump))).heap[w.heap.size]? = some (.deferred (some [])) := fun jump W3 h1 h2 => by
        have h3 := run_endRound (P := P) jump h1
        rw [hrc] at h3 ⊢
        exact ⟨h3, World.putObj_heap_same (row_lt h1), (World.putObj_heap_other (by omega)).trans h2⟩
      rintro e a3 W3 hp
      cases e with
      | normal =>
        obtain ⟨o3, hi3⟩ := hp
        obtain ⟨f1, f2, f3⟩ := fin none W3 (o3.heap hlb fun h => h.2 (.inr (.inl rfl))) (o3.heap hdb fun h => h.2 (.inr (.inr rfl)))
        refine ⟨_, _, f1, .inl ⟨rfl, ⟨hI.same hi3 ((only_put _ _ _).mono fun k _ e => .inr (.inl e)), ⟨hx1, hx2⟩, f2, f3⟩, ?_⟩⟩
        refine ((oab.mono ?_).trans o3 ?_).lay ?_ _
        · rintro k hk rfl
          exact ⟨fun h => by have := hRD _ h; omega, hx1⟩
        · rintro k _ ⟨h1, h2⟩
          exact ⟨h1, fun h => h2 (.inl h)⟩
        · intro _
          exact ⟨fun h => by have := hRD _ h; omega, hx1⟩
      | ret =>
        obtain ⟨o3, hi3⟩ := hp
        obtain ⟨f1, f2, f3⟩ := fin (some .ret) W3 (o3.heap hlb fun h => h (.inr (.inl rfl))) (o3.heap hdb fun h => h (.inr (.inr rfl)))
        exact ⟨_, _, f1, .inr ⟨rfl, ⟨.ret, (hIx _).same hi3 ((only_put _ _ _).mono fun k _ e => .inr (.inl e)), ⟨hx1, hx2⟩, f2, f3⟩, (((oab.mono (T := fun k => ¬ X k) (fun k _ e => e ▸ hx1)).trans o3 (fun k _ h => fun hx => h (.inl hx))).lay (fun _ => hx1) _)⟩⟩
      | exit id =>
        obtain ⟨o3, hi3⟩ := hp
        obtain ⟨f1, f2, f3⟩ := fin (some (.exit id)) W3 (o3.heap hlb fun h => h (.inr (.inl rfl))) (o3.heap hdb fun h => h (.inr (.inr rfl)))
        exact ⟨_, _, f1, .inr ⟨rfl, ⟨.exit id, (hIx _).same hi3 ((only_put _ _ _).mono fun k _ e => .inr (.inl e)), ⟨hx1, hx2⟩, f2, f3⟩, (((oab.mono (T := fun k => ¬ X k) (fun k _ e => e ▸ hx1)).trans o3 (fun k _ h => fun hx => h (.inl hx))).lay (fun _ => hx1) _)⟩⟩
      | goto t =>
        obtain ⟨o3, hi3⟩ := hp
        obtain ⟨f1, f2, f3⟩ := fin (some (.goto t)) W3 (o3.heap hlb fun h => h (.inr (.inl rfl))) (o3.heap hdb fun h => h (.inr (.inr rfl)))
        exact ⟨_, _, f1, .inr ⟨rfl, ⟨.goto t, (hIx _).same hi3 ((only_put _ _ _).mono fun k _ e => .inr (.inl e)), ⟨hx1, hx2⟩, f2, f3⟩, (((oab.mono (T := fun k => ¬ X k) (fun k _ e => e ▸ hx1)).trans o3 (fun k _ h => fun hx => h (.inl hx))).lay (fun _ => hx1) _)⟩⟩
      | panic ch => exact hp.elim
      | outgrown => exact hp.elim
    | ret => exact hp.elim
    | exit id => exact hp.elim
    | goto t => exact hp.elim
    | panic ch => exact hp.elim
    | outgrown => exact hp.elim
  · refine ⟨?_, ⟨fun h => h, fun h => h⟩, hL1, hD1⟩
    refine hI.mono (fun k hk => ?_) (hI.step hi oW)
    rcases hk with hk | hk | hk
    · exact .inl hk
    · exact .inr ⟨by omega, by omega⟩
    · exact .inr ⟨by omega, by omega⟩
  · rintro e W2 ⟨⟨v, rfl⟩, ⟨X, hi2, hx, hl, hk⟩ | ⟨X, pre, hpre, c, hi2, hx, hl, hk⟩⟩
    · refine ⟨none, _, by have := run_endLoop (P := P) hl (by rw [hrc]; simp); rw [hrc] at this; exact this, hdone _ (B X) _ (Nat.le_refl _) (.inr (.inr rfl)) (hI.same hi2 ((only_put _ _ _).mono fun k _ e => .inr (.inl e))) ((World.putObj_heap_other (by omega)).trans hk)⟩
    · refine ⟨some c, _, by have := run_endLoop (P := P) hl (by rw [hrc]; simp); rw [hrc] at this; exact this, hstop _ c (B X) pre _ (Nat.le_refl _) (.inr (.inr rfl)) hpre ((hIx c).same hi2 ((only_put _ _ _).mono fun k _ e => .inr (.inl e))) ((World.putObj_heap_other (by omega)).trans hk)⟩
end
end Go.Proofs.Ytdoimkmhincmmaa
