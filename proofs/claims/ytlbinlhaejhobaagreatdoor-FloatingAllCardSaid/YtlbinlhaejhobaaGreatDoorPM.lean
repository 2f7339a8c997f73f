/- Merged: Iter WinIn BcSqi ChainPure BcMpl BcBst. -/
import Derived.RangeFuncNested
import Derived.RangeFuncBound
import Derived.RangeFuncCalls
import Derived.RangeFuncLeaves
import Derived.Shelf.Abstract
import Derived.OwnWalkIn
import Derived.TacticsInMore
import Derived.LoopNIn
import Derived.LoopIn
import Derived.Test.YtlbinlhaejhobaaGreatDoorPA
import Derived.Maps.OwnIn
import Derived.Test.YtlbinlhaejhobaaGreatDoorPL
import Derived.Maps.Own
/- A range over a function: what an iterator owes to any loop body, and what a loop owes to any iterator, by which blocks each of the two may change. Speaks of no program. -/
namespace Go.Proofs.YtlbinlhaejhobaaGreatDoor
open Go Go.RowKit
section
variable {P : Program} {α : Type}

/-- What holds between two rounds bears whatever changes blocks that are not its own (X), and blocks that come. -/
structure Steady (J : (Nat → Prop) → List α → World → Prop) : Prop where
  step : ∀ {X : Nat → Prop} {pre : List α} {A B : World}, J X pre A → Only X A B → J (fun k => X k ∨ (A.heap.size ≤ k ∧ k < B.heap.size)) pre B
  mono : ∀ {X X' : Nat → Prop} {pre : List α} {A : World}, (∀ k, X k → X' k) → J X' pre A → J X pre A
theorem Steady.same {J : (Nat → Prop) → List α → World → Prop} (h : Steady J) {X : Nat → Prop} {pre : List α} {A B : World} (j : J X pre A) (o : Only X A B) : J X pre B :=
  h.mono (fun _ hk => .inl hk) (h.step j o)

/-- AN ITERATOR: its values are xs, in order. RD: the blocks that it reads: no round that goes on changes them, nor those that the iterator has laid itself. -/
def Iterates (P : Program) (gf : Nat) (lb : Array Value) (encs : α → Array Value) (xs : List α) (RD : Nat → Prop) (w0 : World) : Prop :=
  ∀ (l : Nat) (J Jx : (Nat → Prop) → List α → World → Prop) (W : World), Only (fun k => ¬ RD k) w0 W → Steady J → Steady Jx →
    (∀ X pre x W1, J X pre W1 → (pre ++ [x]) <+: xs → YieldAt Fence.wide 3 P l (encs x) W1 fun e W' =>
      (e = .returned (.bool true) ∧ J X (pre ++ [x]) W' ∧ Only (fun k => ¬ RD k ∧ ¬ X k) W1 W') ∨ (e = .returned (.bool false) ∧ Jx X (pre ++ [x]) W' ∧ Only (fun k => ¬ X k) W1 W')) →
    J (fun _ => False) [] W →
    Calls P gf (#[.func (.yield l) #[] #[]] ++ lb) W fun e W' => (∃ v, e = .returned v) ∧ ((∃ X, J X xs W') ∨ ∃ X pre, pre <+: xs ∧ Jx X pre W')
theorem Iterates.later {gf : Nat} {lb : Array Value} {encs : α → Array Value} {xs : List α} {RD : Nat → Prop} {w0 w1 : World} (h : Iterates P gf lb encs xs RD w0) (ho : Only (fun k => ¬ RD k) w0 w1) : Iterates P gf lb encs xs RD w1 :=
  fun l J Jx W hW hJ hJx hY h0 => h l J Jx W (ho.trans' hW) hJ hJx hY h0

/-- How a round may end. -/
def roundEnd (RD X : Nat → Prop) (_l _D : Nat) (I : (Nat → Prop) → List α → World → Prop) (Ix : Code → (Nat → Prop) → List α → World → Prop) (pre : List α) (W : World) : Exit → Act → World → Prop
  | .normal, _, W' => Only (fun k => ¬ RD k ∧ ¬ X k) W W' ∧ I X pre W'
  | .ret, _, W' => Only (fun k => ¬ X k) W W' ∧ Ix .ret X pre W'
  | .exit id, _, W' => Only (fun k => ¬ X k) W W' ∧ Ix (.exit id) X pre W'
  | .goto t, _, W' => Only (fun k => ¬ X k) W W' ∧ Ix (.goto t) X pre W'
  | .panic _, _, _ => False
  | .outgrown, _, _ => False

theorem only_put (W : World) (l : Nat) (o : Obj) : Only (fun k => k = l) W (W.putObj l o) :=
  ⟨rfl, rfl, rfl, by simp, fun k _ hk => World.putObj_heap_other (fun e => hk (by rw [e]))⟩
theorem Only.lay {S : Nat → Prop} {a w : World} (h : Only S a w) {l : Nat} (hl : l < a.heap.size → S l) (o : Obj) : Only S a (w.putObj l o) :=
  h.trans (only_put w l o) fun k hk e => by subst e; exact hl hk

/-- THE LOOP. -/
theorem wpIn_range {g : Operand} {ps : Array Tmp} {assign body : Code} {Q : Exit → Act → World → Prop} {a : Act} {w : World} {gf : Nat} {lb : Array Value} {encs : α → Array Value} {xs : List α} {RD : Nat → Prop} {w0 : World}
    (hg : a.eval g = .func (.func gf) #[] lb) (eg : ∀ args w, (callFunc gf args).run P w = .ok (.enter gf args) w)
    (hit : Iterates P gf lb encs xs RD w0) (h0 : Only (fun k => ¬ RD k) w0 w) (hRD : ∀ k, RD k → k < w.heap.size) (hps : ∀ x, (encs x).size = ps.size)
    (I : (Nat → Prop) → List α → World → Prop) (Ix : Code → (Nat → Prop) → List α → World → Prop) (hI : Steady I) (hIx : ∀ c, Steady (Ix c)) (hi : I (fun _ => False) [] w)
    (hround : ∀ (l D : Nat) (X : Nat → Prop) (pre : List α) (x : α) (W : World), w.heap.size ≤ l → w.heap.size ≤ D → X l → X D → l < W.heap.size → D < W.heap.size → I X pre W → (pre ++ [x]) <+: xs →
      assign.wpIn (Fence.wide.inRound l) 3 P (Exit.then (fun a₁ W₁ => Only (fun _ => False) W W₁ ∧ ∀ W₂, Only (fun k => k = l) W₁ W₂ → I X pre W₂ →
        body.wpIn (Fence.wide.inRound l) 3 P (roundEnd RD X l D I Ix (pre ++ [x]) W₂) a₁ W₂) (fun _ _ _ => False)) { tmps := (ps.zip (encs x)).foldl (fun t (p, v) => t.setIfInBounds p v) a.tmps, defers := [] } W)
    (hdone : ∀ (D : Nat) (X : Nat → Prop) (W : World), w.heap.size ≤ D → X D → I X xs W → W.heap[D]? = some (.deferred (some [])) → Q .normal { a with defers := { target := .collected D, args := #[] } :: a.defers } W)
    (hstop : ∀ (D : Nat) (c : Code) (X : Nat → Prop) (pre : List α) (W : World), w.heap.size ≤ D → X D → pre <+: xs → Ix c X pre W → W.heap[D]? = some (.deferred (some [])) → c.wpIn Fence.wide 3 P Q { a with defers := { target := .collected D, args := #[] } :: a.defers } W) :
    (Code.rangeFunc g ps assign body).wpIn Fence.wide 3 P Q a w := by
  refine wpIn_rangeFunc ?_
  intro fn hfn
  obtain ⟨rc, hrc⟩ : ∃ rc : LoopState → Option Code → Loop, rc = fun st pe => { state := st, pending := pe, fn, tmps := a.tmps, params := ps, assign, body, defers := w.heap.size } := ⟨_, rfl⟩
  obtain ⟨W1, hW1⟩ : ∃ W1, (w.alloc (.deferred (some []))).alloc (.loop (rc .ready none)) = W1 := ⟨_, rfl⟩
  have hS1 : W1.heap.size = w.heap.size + 2 := by rw [← hW1]; simp
  have oW : Only (fun _ => False) w W1 := by rw [← hW1]; exact ((Only.refl _ w).alloc _).alloc _
  have hL1 : W1.heap[w.heap.size + 1]? = some (.loop (rc .ready none)) := by rw [← hW1]; exact heap_new_at _ _ (by simp)
  have hD1 : W1.heap[w.heap.size]? = some (.deferred (some [])) := by rw [← hW1]; exact heap_kept_alloc (heap_new_at _ _ rfl) _
  refine ⟨w.heap.size + 1, [{ target := .collected w.heap.size, args := #[] }], W1, { target := .fn (.func gf) lb, args := #[.func (.yield (w.heap.size + 1)) #[] #[]] }, W1, gf,
    #[.func (.yield (w.heap.size + 1)) #[] #[]] ++ lb, W1, ?_, ?_, fun _ _ => trivial, ?_, fun _ => by omega, ?_⟩
  · rw [← hW1, hrc]; exact run_enterLoop_outer _ _ _ _ _
  · simp only [resolve, hg]
    simp [go_sem]
  · simp [invoke, go_sem, eg]
  refine callsIn_wide.2 ?_
  -- what the iterator is told to keep
  let B (X : Nat → Prop) : Nat → Prop := fun k => X k ∨ k = w.heap.size + 1 ∨ k = w.heap.size
  have hB : ∀ X, ∀ k, X k → B X k := fun X k h => .inl h
  refine (hit (w.heap.size + 1)
    (fun X pre W => I (B X) pre W ∧ (¬ X (w.heap.size + 1) ∧ ¬ X w.heap.size) ∧ W.heap[w.heap.size + 1]? = some (.loop (rc .ready none)) ∧ W.heap[w.heap.size]? = some (.deferred (some [])))
    (fun X pre W => ∃ c, Ix c (B X) pre W ∧ (¬ X (w.heap.size + 1) ∧ ¬ X w.heap.size) ∧ W.heap[w.heap.size + 1]? = some (.loop (rc .done (some c))) ∧ W.heap[w.heap.size]? = some (.deferred (some [])))
    W1 (h0.trans oW (fun _ _ h => h.elim)) ?_ ?_ ?_ ?_).mono ?_
  · refine ⟨fun {X pre A C} hj ho => ?_, fun {X X' pre A} hX hj => ?_⟩
    · obtain ⟨h1, ⟨h2, h3⟩, h4, h5⟩ := hj
      have l4 := row_lt h4
      have l5 := row_lt h5
      refine ⟨hI.mono (fun k hk => ?_) (hI.step h1 (ho.mono fun x _ hx => hB X x hx)), ⟨fun h => ?_, fun h => ?_⟩, ho.heap h4 h2, ho.heap h5 h3⟩
      · rcases hk with (hk | hk) | hk
        · exact .inl (.inl hk)
        · exact .inr hk
        · exact .inl (.inr hk)
      · rcases h with h | h
        · exact h2 h
        · omega
      · rcases h with h | h
        · exact h3 h
        · omega
    · obtain ⟨h1, ⟨h2, h3⟩, h4, h5⟩ := hj
      exact ⟨hI.mono (fun k hk => Or.elim hk (fun h => Or.inl (hX k h)) Or.inr) h1, ⟨fun h => h2 (hX _ h), fun h => h3 (hX _ h)⟩, h4, h5⟩
  · refine ⟨fun {X pre A C} hj ho => ?_, fun {X X' pre A} hX hj => ?_⟩
    · obtain ⟨c, h1, ⟨h2, h3⟩, h4, h5⟩ := hj
      have l4 := row_lt h4
      have l5 := row_lt h5
      refine ⟨c, (hIx c).mono (fun k hk => ?_) ((hIx c).step h1 (ho.mono fun x _ hx => hB X x hx)), ⟨fun h => ?_, fun h => ?_⟩, ho.heap h4 h2, ho.heap h5 h3⟩
      · rcases hk with (hk | hk) | hk
        · exact .inl (.inl hk)
        · exact .inr hk
        · exact .inl (.inr hk)
      · rcases h with h | h
        · exact h2 h
        · omega
      · rcases h with h | h
        · exact h3 h
        · omega
    · obtain ⟨c, h1, ⟨h2, h3⟩, h4, h5⟩ := hj
      exact ⟨c, (hIx c).mono (fun k hk => Or.elim hk (fun h => Or.inl (hX k h)) Or.inr) h1, ⟨fun h => h2 (hX _ h), fun h => h3 (hX _ h)⟩, h4, h5⟩
  · -- one round
    rintro X pre x W ⟨hi, ⟨hx1, hx2⟩, hl, hd⟩ hpre
    have ll := row_lt hl
    have ld := row_lt hd
    have hy := run_yield (P := P) (args := encs x) hl (by rw [hrc]; exact hps x)
    rw [hrc] at hy
    refine ⟨fn, _, assign, body, hy, roundIn_of_wpIn trivial (wpIn_mono (hround _ _ (B X) pre x W (by omega) (Nat.le_refl _) (.inr (.inl rfl)) (.inr (.inr rfl)) ll ld hi hpre) ?_)⟩
    clear hy
    rintro e a1 Wa hp
    cases e with
    | normal =>
      obtain ⟨oa, hp⟩ := hp
      have hla := oa.heap hl (fun h => h)
      have hda := oa.heap hd (fun h => h)
      have lla := row_lt hla
      refine ⟨_, run_beginRound hla (by rw [hrc]), ?_⟩
      have ob := only_put Wa (w.heap.size + 1) (.loop { rc .ready none with state := .busy })
      have hlb : (Wa.putObj (w.heap.size + 1) (.loop { rc .ready none with state := .busy })).heap[w.heap.size + 1]? = some (.loop { rc .ready none with state := .busy }) := World.putObj_heap_same lla
      have hdb := ob.heap hda (by omega)
      have oab : Only (fun k => k = w.heap.size + 1) W (Wa.putObj (w.heap.size + 1) (.loop { rc .ready none with state := .busy })) := (oa.mono (fun _ _ h => h.elim)).trans' ob
      refine wpIn_mono (hp _ ob (hI.same hi (oab.mono fun k _ e => .inr (.inl e)))) ?_
      clear hp
      generalize Wa.putObj (w.heap.size + 1) (.loop { rc .ready none with state := .busy }) = Wb at hlb hdb oab
      have fin : ∀ (jump : Option Code) (W3 : World), W3.heap[w.heap.size + 1]? = some (.loop { rc .ready none with state := .busy }) → W3.heap[w.heap.size]? = some (.deferred (some [])) →
          (Instr.endRound (w.heap.size + 1) jump).run P W3 = .ok (.bool jump.isNone) (W3.putObj (w.heap.size + 1) (.loop (rc (if jump.isNone then .ready else .done) jump))) ∧
          (W3.putObj (w.heap.size + 1) (.loop (rc (if jump.isNone then .ready else .done) jump))).heap[w.heap.size + 1]? = some (.loop (rc (if jump.isNone then .ready else .done) jump)) ∧
          (W3.putObj (w.heap.size + 1) (.loop (rc (if jump.isNone then .ready else .done) jump))).heap[w.heap.size]? = some (.deferred (some [])) := fun jump W3 h1 h2 => by
        have h3 := run_endRound (P := P) jump h1
        rw [hrc] at h3 ⊢
        exact ⟨h3, World.putObj_heap_same (row_lt h1), (World.putObj_heap_other (by omega)).trans h2⟩
      rintro e a3 W3 hp
      cases e with
      | normal =>
        obtain ⟨o3, hi3⟩ := hp
        obtain ⟨f1, f2, f3⟩ := fin none W3 (o3.heap hlb fun h => h.2 (.inr (.inl rfl))) (o3.heap hdb fun h => h.2 (.inr (.inr rfl)))
        refine ⟨_, _, f1, .inl ⟨rfl, ⟨hI.same hi3 ((only_put _ _ _).mono fun k _ e => .inr (.inl e)), ⟨hx1, hx2⟩, f2, f3⟩, ?_⟩⟩
        refine ((oab.mono ?_).trans o3 ?_).lay ?_ _
        · rintro k hk rfl
          exact ⟨fun h => by have := hRD _ h; omega, hx1⟩
        · rintro k _ ⟨h1, h2⟩
          exact ⟨h1, fun h => h2 (.inl h)⟩
        · intro _
          exact ⟨fun h => by have := hRD _ h; omega, hx1⟩
      | ret =>
        obtain ⟨o3, hi3⟩ := hp
        obtain ⟨f1, f2, f3⟩ := fin (some .ret) W3 (o3.heap hlb fun h => h (.inr (.inl rfl))) (o3.heap hdb fun h => h (.inr (.inr rfl)))
        exact ⟨_, _, f1, .inr ⟨rfl, ⟨.ret, (hIx _).same hi3 ((only_put _ _ _).mono fun k _ e => .inr (.inl e)), ⟨hx1, hx2⟩, f2, f3⟩, (((oab.mono (T := fun k => ¬ X k) (fun k _ e => e ▸ hx1)).trans o3 (fun k _ h => fun hx => h (.inl hx))).lay (fun _ => hx1) _)⟩⟩
      | exit id =>
        obtain ⟨o3, hi3⟩ := hp
        obtain ⟨f1, f2, f3⟩ := fin (some (.exit id)) W3 (o3.heap hlb fun h => h (.inr (.inl rfl))) (o3.heap hdb fun h => h (.inr (.inr rfl)))
        exact ⟨_, _, f1, .inr ⟨rfl, ⟨.exit id, (hIx _).same hi3 ((only_put _ _ _).mono fun k _ e => .inr (.inl e)), ⟨hx1, hx2⟩, f2, f3⟩, (((oab.mono (T := fun k => ¬ X k) (fun k _ e => e ▸ hx1)).trans o3 (fun k _ h => fun hx => h (.inl hx))).lay (fun _ => hx1) _)⟩⟩
      | goto t =>
        obtain ⟨o3, hi3⟩ := hp
        obtain ⟨f1, f2, f3⟩ := fin (some (.goto t)) W3 (o3.heap hlb fun h => h (.inr (.inl rfl))) (o3.heap hdb fun h => h (.inr (.inr rfl)))
        exact ⟨_, _, f1, .inr ⟨rfl, ⟨.goto t, (hIx _).same hi3 ((only_put _ _ _).mono fun k _ e => .inr (.inl e)), ⟨hx1, hx2⟩, f2, f3⟩, (((oab.mono (T := fun k => ¬ X k) (fun k _ e => e ▸ hx1)).trans o3 (fun k _ h => fun hx => h (.inl hx))).lay (fun _ => hx1) _)⟩⟩
      | panic ch => exact hp.elim
      | outgrown => exact hp.elim
    | ret => exact hp.elim
    | exit id => exact hp.elim
    | goto t => exact hp.elim
    | panic ch => exact hp.elim
    | outgrown => exact hp.elim
  · refine ⟨?_, ⟨fun h => h, fun h => h⟩, hL1, hD1⟩
    refine hI.mono (fun k hk => ?_) (hI.step hi oW)
    rcases hk with hk | hk | hk
    · exact .inl hk
    · exact .inr ⟨by omega, by omega⟩
    · exact .inr ⟨by omega, by omega⟩
  · rintro e W2 ⟨⟨v, rfl⟩, ⟨X, hi2, hx, hl, hk⟩ | ⟨X, pre, hpre, c, hi2, hx, hl, hk⟩⟩
    · refine ⟨none, _, by have := run_endLoop (P := P) hl (by rw [hrc]; simp); rw [hrc] at this; exact this, hdone _ (B X) _ (Nat.le_refl _) (.inr (.inr rfl)) (hI.same hi2 ((only_put _ _ _).mono fun k _ e => .inr (.inl e))) ((World.putObj_heap_other (by omega)).trans hk)⟩
    · refine ⟨some c, _, by have := run_endLoop (P := P) hl (by rw [hrc]; simp); rw [hrc] at this; exact this, hstop _ c (B X) pre _ (Nat.le_refl _) (.inr (.inr rfl)) hpre ((hIx c).same hi2 ((only_put _ _ _).mono fun k _ e => .inr (.inl e))) ((World.putObj_heap_other (by omega)).trans hk)⟩
end
end Go.Proofs.YtlbinlhaejhobaaGreatDoor
/- append to a slice of the call's own, within a fence; worlds in a round. Speaks of no program. -/
namespace Go.Proofs.YtlbinlhaejhobaaGreatDoor
open Go Go.RowKit
/-- append to a slice of the call's own, within a fence. -/
theorem wpListIn_append_win {F : Fence} {nF : Nat} {P : Program} {w : World} {ops : Array Oper} {rest : List Oper} {o : Oper} {a : Act} {Q : Exit → Act → World → Prop} (hgd : o.guard = none) (s x : Operand) (t : TypeId)
    (hop : o.op = Op.call { callee := Callee.builtin Builtin.append, args := #[s, x], argTypes := #[t, t] }) (e : TypeId) (z : Value) (sz bytes : Nat) (ht : P.underlying t = some (.slice e))
    (hinfo : (P.info? e).map (fun i => (i.zero, i.size, i.bytes)) = some (some z, sz, bytes)) (hzs : z.cells.size = sz) (hsz : 0 < sz)
    {v : Value} {h : Option Nat} {n : Nat} {xs : List Value} (hs : a.eval s = v) (hW : Win w e sz v h n xs) (xp : Option Addr) (m c : Nat) (hx : a.eval x = .slice xp m c) (news : List Value) (hl : news.length = m * sz)
    (hsrc : 0 < m → ∃ ad, xp = some ad ∧ ∀ j u, news[j]? = some u → w.cell? (ad.add j) = some u) (h1 : ∀ u ∈ news, u.oneCell' = true) (h63 : n + m ≤ maxLen) (hbytes : (n + m) * bytes ≤ 140737488355328)
    (hK : ∀ v' w' h', Hid (Win w' e sz v' h' (n + m) (xs ++ news)) → Hid (Only (fun k => some k = h) w w') → Hid (h' = h ∨ ∃ g, h' = some g ∧ w.heap.size ≤ g) → wpListIn F nF P ops Q rest (a.put o.dst v') w') : wpListIn F nF P ops Q (o :: rest) a w := by
  refine wpListIn_plain hgd fun K hK' => ?_
  obtain ⟨v', w', h', hrun, r1, r2, r3⟩ := run_append_win (P := P) w t o.type e z sz bytes ht hinfo hzs hsz hW xp m c news hl hsrc h1 h63 hbytes
  unfold Oper.wpIn
  refine ⟨by simp [Oper.about, hop, resolve, Target.leads, Sem.run_pure], ?_⟩
  rw [Oper.semAt_plain F _ _ (by rw [hop]; intro c hc'; cases hc')]
  simp [execOp, hop, resolve, invoke, builtin, hs, hx, hrun, Result.andThen]
  exact hK' _ _ (hK v' w' h' r1 r2 r3)
end Go.Proofs.YtlbinlhaejhobaaGreatDoor
/- chain: the iterator over a row of numbers. -/
namespace Go.Proofs.YtlbinlhaejhobaaGreatDoor
namespace Bch
open Go Go.RowKit Go.Maps Go.Shelf
attribute [local go_sem] Oper.semAt_some
def encN (x : Nat) : Array Value := #[.int .i64 (x : Int)]
def RDs (Y : Nat) (h : Option Nat) (k : Nat) : Prop := k = Y ∨ h = some k
set_option maxRecDepth 100000 in
set_option maxHeartbeats 2000000 in
theorem seq_iter {w0 : World} {Y n cap : Nat} {A : Option Addr} {h : Option Nat} {L : List Nat} (hY : w0.cell? ⟨Y, 0, none⟩ = some (.slice A n cap)) (hW : Win w0 3 1 (.slice A n cap) h n (dat L)) (hn : L.length = n) (hmax : n ≤ 1000000) :
    Iterates Tryz.prog 181 #[.pointer (some ⟨Y, 0, none⟩)] encN L (RDs Y h) w0 := fun ly J Jx W hO0 hJ hJx hYd h0 => by
  have cB := hO0.cell hY (fun h => h (.inl rfl))
  have hW' := Lib.hid (hW.kept hO0 (fun k hk hh => hh (.inr hk)))
  have hBl : Y < W.heap.size := World.block_lt_of_cell? W _ cB
  have hJ' := Lib.hid hJ
  have hn' := Lib.hid hn
  have h0' := Lib.hid h0
  clear hJ hJx hY hW hn hO0 h0
  refine callsIn_wide (n := 4) |>.1 ?_
  refine callsIn_of_wp Tryz.func181 rfl trivial ?_ rfl
  simp only [Tryz.ntmps181, List.size_toArray, List.length_cons, List.length_nil, Nat.reduceAdd, Nat.reduceSub, Array.replicate_succ, Array.replicate_zero, List.push_toArray, List.append_toArray, List.nil_append, List.cons_append]
  gi_wp2
  gi_loopw [4, 7] (fun _ i wr => ∃ (k : Nat) (X : Nat → Prop), k ≤ n ∧ i = .int .i64 k ∧ J X (L.take k) wr ∧ Only (fun k => ¬ RDs Y h k) W wr) (fun _ i _ => n - (intOf i).toNat)
  case atStart => exact ⟨0, _, Nat.zero_le _, rfl, h0'.out, Only.refl _ W⟩
  case round =>
    obtain ⟨k, X, hk, rfl, hj, hO⟩ := hrel
    obtain ⟨ws, hws⟩ : ∃ ws : World, ws = wr := ⟨_, rfl⟩
    subst hws
    have hO' := Lib.hid hO
    have hj' := Lib.hid hj
    clear hj hO
    by_cases hkn : k < n
    · have hkn' : (k : Int) < (n : Int) := by omega
      obtain ⟨x, hx⟩ : ∃ x, L[k]? = some x := ⟨_, List.getElem?_eq_getElem (by have := hn'.out; omega)⟩
      obtain ⟨g, off, c', _, hv, _, _, hgl, hc, _⟩ := (hW'.out.kept hO'.out (fun k hk hh => hh (.inr hk))).at_ (by omega)
      simp only [Value.slice.injEq, true_and] at hv
      obtain ⟨rfl, rfl⟩ := hv
      have cx := hc k _ (dat_at hx)
      have hpre : L.take k ++ [x] <+: L := by rw [← take_snoc hx]; exact List.take_prefix _ _
      have htk := Lib.hid (take_snoc hx)
      obtain ⟨fn, tmps, assign, body, hy, hR⟩ := hYd X (L.take k) x ws hj'.out hpre
      unfold encN at hy
      have hpre' := Lib.hid hpre
      clear hc hx hpre
      gi_wp2_with fail
      refine hR.mono ?_
      rintro e W7 (⟨rfl, hJ7, hk7⟩ | ⟨rfl, hJx7, -⟩)
      · have hend := Lib.hid (And.intro hJ7 hk7)
        clear hJ7 hk7
        gi_wp2
        go_roundw
        case rel => exact ⟨k + 1, X, by omega, by go_num, by rw [htk.out]; exact hend.out.1, hO'.out.trans hend.out.2 (fun x _ h => h.1)⟩
        case measure => simp [intOf]; omega
      · have hend := Lib.hid hJx7
        clear hJx7
        gi_wp2
        refine bodyPost_ret (results_none rfl _ _ _) rfl ?_
        exact ⟨⟨_, rfl⟩, .inr ⟨X, _, hpre'.out, hend.out⟩⟩
    · obtain rfl : k = n := by omega
      gi_wp2
      go_end0
      refine ⟨⟨_, rfl⟩, .inl ⟨X, ?_⟩⟩
      have := hj'.out
      rw [List.take_of_length_le (by have := hn'.out; omega)] at this
      exact this
end Bch
end Go.Proofs.YtlbinlhaejhobaaGreatDoor
/- Chains of tasks, in numbers: the deepest one, found from the highest priority down, is what going through all chains tells; groups. Speaks of no program. -/
namespace Go.Proofs.YtlbinlhaejhobaaGreatDoor
namespace Chn
variable (n : Nat) (P TH F : Nat → Int)
def can (a b : Nat) : Bool := decide (TH b < P a)
def depth : List Nat → Int
  | [] => 0
  | x :: l => F x + depth l
/-- All chains that begin with a task (as deep as the fuel reaches). -/
def chains : Nat → Nat → List (List Nat)
  | 0, a => [[a]]
  | f + 1, a => [a] :: ((List.range n).filter fun i => can P TH i a).flatMap fun i => (chains f i).map (a :: ·)
def ahead : List Nat → List Nat → Bool
  | [], _ => false
  | _ :: _, [] => true
  | x :: a, y :: b => if x = y then ahead a b else decide (P x < P y)
def better (a b : List Nat) : Bool := decide (depth F b < depth F a) || (decide (depth F a = depth F b) && ahead P a b)
variable {n P TH F}
theorem ahead_irrefl : ∀ a : List Nat, ahead P a a = false
  | [] => rfl
  | x :: a => by unfold ahead; rw [if_pos rfl]; exact ahead_irrefl a
theorem ahead_trans : ∀ {a b c : List Nat}, ahead P a b = true → ahead P b c = true → ahead P a c = true
  | [], _, _, h, _ => by simp [ahead] at h
  | x :: a, [], c, _, h => by simp [ahead] at h
  | x :: a, y :: b, [], _, _ => rfl
  | x :: a, y :: b, z :: c, h, k => by
    unfold ahead at h k ⊢
    by_cases hxy : x = y
    · subst hxy
      rw [if_pos rfl] at h
      by_cases hxz : x = z
      · subst hxz
        rw [if_pos rfl] at k ⊢
        exact ahead_trans h k
      · rw [if_neg hxz] at k ⊢
        exact k
    · rw [if_neg hxy] at h
      have h1 := of_decide_eq_true h
      by_cases hyz : y = z
      · subst hyz
        rw [if_neg hxy]
        exact h
      · rw [if_neg hyz] at k
        have h2 := of_decide_eq_true k
        rw [if_neg (by rintro rfl; omega)]
        exact decide_eq_true (by omega)
theorem ahead_total (hP : ∀ i k, i < n → k < n → P i = P k → i = k) : ∀ {a b : List Nat}, (∀ x ∈ a, x < n) → (∀ x ∈ b, x < n) → ahead P a b = false → ahead P b a = false → a = b
  | [], [], _, _, _, _ => rfl
  | [], y :: b, _, _, _, k => by simp [ahead] at k
  | x :: a, [], _, _, h, _ => by simp [ahead] at h
  | x :: a, y :: b, ha, hb, h, k => by
    unfold ahead at h k
    by_cases hxy : x = y
    · subst hxy
      rw [if_pos rfl] at h k
      rw [ahead_total hP (fun z hz => ha z (List.mem_cons_of_mem _ hz)) (fun z hz => hb z (List.mem_cons_of_mem _ hz)) h k]
    · rw [if_neg hxy] at h
      rw [if_neg (Ne.symm hxy)] at k
      have h1 := of_decide_eq_false h
      have h2 := of_decide_eq_false k
      exact absurd (hP x y (ha x (List.mem_cons_self ..)) (hb y (List.mem_cons_self ..)) (by omega)) hxy
theorem better_irrefl (a : List Nat) : better P F a a = false := by
  unfold better
  rw [ahead_irrefl]
  simp
theorem better_iff {a b : List Nat} : better P F a b = true ↔ depth F b < depth F a ∨ (depth F a = depth F b ∧ ahead P a b = true) := by
  unfold better
  simp
theorem better_trans {a b c : List Nat} (h : better P F a b = true) (k : better P F b c = true) : better P F a c = true := by
  rw [better_iff] at *
  rcases h with h | ⟨h, h'⟩ <;> rcases k with k | ⟨k, k'⟩
  · left; omega
  · left; omega
  · left; omega
  · exact .inr ⟨by omega, ahead_trans h' k'⟩
theorem better_uniq (hP : ∀ i k, i < n → k < n → P i = P k → i = k) {a b : List Nat} (ha : ∀ x ∈ a, x < n) (hb : ∀ x ∈ b, x < n) (h : better P F a b = false) (k : better P F b a = false) : a = b := by
  have h1 : ¬ (depth F b < depth F a ∨ (depth F a = depth F b ∧ ahead P a b = true)) := by rw [← better_iff, h]; simp
  have k1 : ¬ (depth F a < depth F b ∨ (depth F b = depth F a ∧ ahead P b a = true)) := by rw [← better_iff, k]; simp
  have hd : depth F a = depth F b := by omega
  refine ahead_total hP ha hb ?_ ?_
  · cases hh : ahead P a b
    · rfl
    · exact absurd (.inr ⟨hd, hh⟩) h1
  · cases hh : ahead P b a
    · rfl
    · exact absurd (.inr ⟨hd.symm, hh⟩) k1
/-- The best of a row, as going through it finds it. -/
def bestF (P F : Nat → Int) : List (List Nat) → Option (List Nat) → Option (List Nat)
  | [], b => b
  | l :: r, none => bestF P F r (some l)
  | l :: r, some b => bestF P F r (some (if better P F l b then l else b))
theorem bestF_spec : ∀ (r : List (List Nat)) (done : List (List Nat)) (b : List Nat), (∀ l ∈ done, better P F l b = false) → b ∈ done → ∃ m, bestF P F r (some b) = some m ∧ m ∈ done ++ r ∧ ∀ l ∈ done ++ r, better P F l m = false
  | [], done, b, h, hb => ⟨b, rfl, by simpa using hb, by simpa using h⟩
  | l :: r, done, b, h, hb => by
    have key : ∀ c, c ∈ done ++ [l] → (∀ x ∈ done ++ [l], better P F x c = false) → ∃ m, bestF P F r (some c) = some m ∧ m ∈ done ++ l :: r ∧ ∀ x ∈ done ++ l :: r, better P F x m = false := fun c hc hx => by
      obtain ⟨m, h1, h2, h3⟩ := bestF_spec r (done ++ [l]) c hx hc
      refine ⟨m, h1, ?_, ?_⟩
      · simpa using h2
      · simpa using h3
    show ∃ m, bestF P F r (some (if better P F l b = true then l else b)) = some m ∧ _
    by_cases hl : better P F l b = true
    · rw [if_pos hl]
      refine key l (by simp) (fun x hx => ?_)
      rcases List.mem_append.1 hx with hx | hx
      · cases hh : better P F x l
        · rfl
        · have := better_trans hh hl
          rw [h x hx] at this
          cases this
      · obtain rfl : x = l := by simpa using hx
        exact better_irrefl _
    · rw [if_neg hl]
      refine key b (by simp [hb]) (fun x hx => ?_)
      rcases List.mem_append.1 hx with hx | hx
      · exact h x hx
      · obtain rfl : x = l := by simpa using hx
        simpa using hl
theorem bestF_none {r : List (List Nat)} (h : r ≠ []) : ∃ m, bestF P F r none = some m ∧ m ∈ r ∧ ∀ l ∈ r, better P F l m = false := by
  cases r with
  | nil => exact absurd rfl h
  | cons l r =>
    obtain ⟨m, h1, h2, h3⟩ := bestF_spec (P := P) (F := F) r [l] l (by simp [better_irrefl]) (by simp)
    exact ⟨m, h1, by simpa using h2, by simpa using h3⟩

def dO (D : Nat → Int) : Option Nat → Int
  | none => 0
  | some k => D k
/-- Whom a walk from the highest priority down picks: the deepest, of several the last one. -/
def pick (H : Nat → Bool) (D : Nat → Int) : List Nat → Option Nat → Option Nat
  | [], f => f
  | t :: r, f => pick H D r (if H t = true ∧ dO D f ≤ D t then some t else f)
def PickOk (P : Nat → Int) (H : Nat → Bool) (D : Nat → Int) (done : List Nat) : Option Nat → Prop
  | none => ∀ j ∈ done, H j = false
  | some k => k ∈ done ∧ H k = true ∧ ∀ j ∈ done, H j = true → D j ≤ D k ∧ (D j = D k → P k ≤ P j)
theorem pick_spec {H : Nat → Bool} {D : Nat → Int} (hD : ∀ j, H j = true → 0 ≤ D j) : ∀ (r done : List Nat) (f : Option Nat), (done ++ r).Pairwise (fun a b => P b ≤ P a) → PickOk P H D done f → PickOk P H D (done ++ r) (pick H D r f)
  | [], done, f, _, h => by rw [List.append_nil]; exact h
  | t :: r, done, f, hs, h => by
    have hs' : ((done ++ [t]) ++ r).Pairwise (fun a b => P b ≤ P a) := by simpa using hs
    have hd : ∀ j ∈ done, P t ≤ P j := fun j hj => (List.pairwise_append.1 hs).2.2 j hj t (by simp)
    have := pick_spec hD r (done ++ [t]) (if H t = true ∧ dO D f ≤ D t then some t else f) hs' (by
      by_cases hc : H t = true ∧ dO D f ≤ D t
      · rw [if_pos hc]
        refine ⟨by simp, hc.1, fun j hj hH => ?_⟩
        rcases List.mem_append.1 hj with hj | hj
        · cases f with
          | none => rw [h j hj] at hH; cases hH
          | some k =>
            have := h.2.2 j hj hH
            have h2 := hc.2
            simp only [dO] at h2
            exact ⟨by omega, fun _ => hd j hj⟩
        · obtain rfl : j = t := by simpa using hj
          exact ⟨Int.le_refl _, fun _ => Int.le_refl _⟩
      · rw [if_neg hc]
        cases f with
        | none =>
          intro j hj
          rcases List.mem_append.1 hj with hj | hj
          · exact h j hj
          · obtain rfl : j = t := by simpa using hj
            cases hh : H j
            · rfl
            · exact absurd ⟨hh, hD j hh⟩ hc
        | some k =>
          refine ⟨by simp [h.1], h.2.1, fun j hj hH => ?_⟩
          rcases List.mem_append.1 hj with hj | hj
          · exact h.2.2 j hj hH
          · obtain rfl : j = t := by simpa using hj
            simp only [dO] at hc
            have hlt : D j < D k := by
              rcases Int.lt_or_le (D j) (D k) with hh | hh
              · exact hh
              · exact absurd ⟨hH, hh⟩ hc
            exact ⟨by omega, fun e => by omega⟩)
    have e : done ++ [t] ++ r = done ++ t :: r := by simp
    rw [e] at this
    exact this

/-- What is told of tasks so far: how deep their best chain is, and who comes next. -/
abbrev Lks := Nat → Option (Int × Option Nat)
def dOf (L : Lks) (k : Nat) : Int := ((L k).map (·.1)).getD 0
def stepL (P TH F : Nat → Int) (ord : List Nat) (L : Lks) (t : Nat) : Lks :=
  let nx := pick (fun k => can P TH k t) (dOf L) ord none
  fun k => if k = t then some (F t + dO (dOf L) nx, nx) else L k
theorem stepL_same {P TH F : Nat → Int} {ord : List Nat} {L : Lks} {t : Nat} : stepL P TH F ord L t t = some (F t + dO (dOf L) (pick (fun k => can P TH k t) (dOf L) ord none), pick (fun k => can P TH k t) (dOf L) ord none) := by
  unfold stepL
  exact if_pos rfl
theorem stepL_other {P TH F : Nat → Int} {ord : List Nat} {L : Lks} {t k : Nat} (h : k ≠ t) : stepL P TH F ord L t k = L k := by
  unfold stepL
  exact if_neg h
def linksOf (P TH F : Nat → Int) (ord : List Nat) : List Nat → Lks → Lks
  | [], L => L
  | t :: r, L => linksOf P TH F ord r (stepL P TH F ord L t)
/-- The chain that begins with a task, link by link. -/
inductive Good (F : Nat → Int) (L : Lks) : Nat → List Nat → Prop where
  | last {t : Nat} {d : Int} (h : L t = some (d, none)) (hd : d = F t) : Good F L t [t]
  | link {t k : Nat} {d : Int} {c : List Nat} (h : L t = some (d, some k)) (hc : Good F L k c) (hd : d = F t + depth F c) : Good F L t (t :: c)
theorem Good.depth {L : Lks} {t : Nat} {c : List Nat} (h : Good F L t c) : dOf L t = depth F c := by
  cases h with
  | last h hd => unfold dOf; rw [h, hd]; simp [Chn.depth]
  | link h hc hd => unfold dOf; rw [h, hd]; simp [Chn.depth]
theorem Good.mono {L L' : Lks} {t : Nat} {c : List Nat} (h : Good F L t c) (hL : ∀ k, (L k).isSome = true → L' k = L k) : Good F L' t c := by
  induction h with
  | last h hd => exact .last (by rw [hL _ (by rw [h]; rfl), h]) hd
  | link h hc hd ih => exact .link (by rw [hL _ (by rw [h]; rfl), h]) ih hd
theorem Good.head {L : Lks} {t : Nat} {c : List Nat} (h : Good F L t c) : ∃ r, c = t :: r := by
  cases h with
  | last => exact ⟨[], rfl⟩
  | link => exact ⟨_, rfl⟩
/-- A chain: those of it, and how they follow. -/
def Chain (n : Nat) (P TH : Nat → Int) : List Nat → Prop
  | [] => True
  | [a] => a < n
  | a :: b :: l => a < n ∧ can P TH b a = true ∧ Chain n P TH (b :: l)
theorem Chain.lt : ∀ {l : List Nat}, Chain n P TH l → ∀ x ∈ l, x < n
  | [], _, x, hx => by simp at hx
  | [a], h, x, hx => by obtain rfl : x = a := by simpa using hx
                        exact h
  | a :: b :: l, h, x, hx => by
    rcases List.mem_cons.1 hx with rfl | hx
    · exact h.1
    · exact Chain.lt h.2.2 x hx
/-- No chain that begins with t is better. -/
def Best (n : Nat) (P TH F : Nat → Int) (t : Nat) (c : List Nat) : Prop := Chain n P TH c ∧ (∃ r, c = t :: r) ∧ ∀ r, Chain n P TH (t :: r) → better P F (t :: r) c = false
section main
variable {ord : List Nat} (hTH : ∀ i, i < n → P i ≤ TH i) (hP : ∀ i k, i < n → k < n → P i = P k → i = k) (hF : ∀ i, i < n → 0 ≤ F i)
  (hs : ord.Pairwise (fun a b => P b ≤ P a)) (hm : ∀ i, i ∈ ord ↔ i < n) (hnd : ord.Nodup)
include hF in
theorem depth_nonneg : ∀ {l : List Nat}, (∀ x ∈ l, x < n) → 0 ≤ depth F l
  | [], _ => Int.le_refl _
  | x :: l, h => by
    have h1 := hF x (h x (List.mem_cons_self ..))
    have h2 := depth_nonneg (l := l) (fun y hy => h y (List.mem_cons_of_mem _ hy))
    show 0 ≤ F x + depth F l
    omega
theorem better_cons {t : Nat} {a b : List Nat} : better P F (t :: a) (t :: b) = better P F a b := by
  rw [Bool.eq_iff_iff, better_iff, better_iff]
  show F t + depth F b < F t + depth F a ∨ (F t + depth F a = F t + depth F b ∧ (if t = t then ahead P a b else _) = true) ↔ _
  rw [if_pos rfl]
  constructor <;> rintro (h | ⟨h, k⟩)
  · left; omega
  · exact .inr ⟨by omega, k⟩
  · left; omega
  · exact .inr ⟨by omega, k⟩
theorem chain_cons {t k : Nat} {c r : List Nat} (ht : t < n) (hc : Chain n P TH c) (hk : c = k :: r) (hcan : can P TH k t = true) : Chain n P TH (t :: c) := by
  subst hk
  exact ⟨ht, hcan, hc⟩
/-- Of those that may come, the picked one's best chain is the best. -/
theorem pick_best {L : Lks} {H : Nat → Bool} {C : Nat → List Nat} (hC : ∀ k, k < n → H k = true → Good F L k (C k) ∧ Best n P TH F k (C k)) {k : Nat} (hk : PickOk P H (dOf L) ord (some k)) (hmm : ∀ i, i ∈ ord ↔ i < n) :
    ∀ j r, H j = true → Chain n P TH (j :: r) → better P F (j :: r) (C k) = false := by
  intro j r hj hch
  obtain ⟨h1, h2, h3⟩ := hk
  have hkn := (hmm k).1 h1
  have hjn := hch.lt j (List.mem_cons_self ..)
  obtain ⟨g1, b1⟩ := hC k hkn h2
  obtain ⟨g2, b2⟩ := hC j hjn hj
  obtain ⟨h4, h5⟩ := h3 j ((hmm j).2 hjn) hj
  rw [g1.depth, g2.depth] at h4 h5
  by_cases hjk : j = k
  · subst hjk
    exact b1.2.2 r hch
  cases hh : better P F (j :: r) (C k)
  · rfl
  · exfalso
    have hb := b2.2.2 r hch
    have hb' : ¬ (depth F (C j) < depth F (j :: r) ∨ (depth F (j :: r) = depth F (C j) ∧ ahead P (j :: r) (C j) = true)) := by rw [← better_iff, hb]; simp
    rcases better_iff.1 hh with h6 | ⟨h6, h7⟩
    · omega
    · have h8 : P k ≤ P j := h5 (by omega)
      obtain ⟨q, hq⟩ := b1.2.1
      rw [hq] at h7
      unfold ahead at h7
      rw [if_neg hjk] at h7
      have := of_decide_eq_true h7
      omega
include hF in
theorem best_empty {c : List Nat} (hc : Chain n P TH c) : better P F [] c = false := by
  have h := depth_nonneg hF hc.lt
  cases hh : better P F [] c
  · rfl
  · rcases better_iff.1 hh with h1 | ⟨_, h1⟩
    · have : depth F [] = 0 := rfl
      omega
    · simp [ahead] at h1
/-- What holds of what is told so far. -/
def LOk (n : Nat) (P TH F : Nat → Int) (L : Lks) (done : List Nat) : Prop := ∀ t, (t ∈ done → ∃ c, Good F L t c ∧ Best n P TH F t c) ∧ (t ∉ done → L t = none)
include hTH hF hs hm hnd in
theorem linksOf_ok : ∀ (r done : List Nat) (L : Lks), done ++ r = ord → LOk n P TH F L done → LOk n P TH F (linksOf P TH F ord r L) ord
  | [], done, L, he, h => by rw [List.append_nil] at he; subst he; exact h
  | t :: r, done, L, he, h => by
    have htn : t < n := (hm t).1 (by rw [← he]; simp)
    refine linksOf_ok r (done ++ [t]) (stepL P TH F ord L t) (by simpa using he) ?_
    -- those that can displace t come ahead
    have hbef : ∀ k, k < n → can P TH k t = true → k ∈ done := fun k hk hc => by
      have h1 := of_decide_eq_true hc
      have h2 := hTH t htn
      have hko := (hm k).2 hk
      rw [← he] at hko hs
      rcases List.mem_append.1 hko with h3 | h3
      · exact h3
      · exfalso
        rcases List.mem_cons.1 h3 with rfl | h3
        · omega
        · have := (List.pairwise_cons.1 (List.pairwise_append.1 hs).2.1).1 k h3
          omega
    have hCC : ∀ k, ∃ c, k ∈ done → Good F L k c ∧ Best n P TH F k c := fun k => by
      by_cases hk : k ∈ done
      · obtain ⟨c, hc⟩ := (h k).1 hk
        exact ⟨c, fun _ => hc⟩
      · exact ⟨[], fun hh => absurd hh hk⟩
    obtain ⟨C, hC⟩ : ∃ C : Nat → List Nat, ∀ k, k ∈ done → Good F L k (C k) ∧ Best n P TH F k (C k) := ⟨fun k => Classical.choose (hCC k), fun k => Classical.choose_spec (hCC k)⟩
    have hCk : ∀ k, k < n → can P TH k t = true → Good F L k (C k) ∧ Best n P TH F k (C k) := fun k hk hc => hC k (hbef k hk hc)
    have hD : ∀ j, can P TH j t = true → 0 ≤ dOf L j := fun j hj => by
      by_cases hjn : j < n
      · obtain ⟨g, b⟩ := hCk j hjn hj
        rw [g.depth]
        exact depth_nonneg hF b.1.lt
      · unfold dOf
        rw [(h j).2 (fun hh => hjn ((hm j).1 (by rw [← he]; simp [hh])))]
        exact Int.le_refl _
    have hpk := pick_spec (P := P) (H := fun k => can P TH k t) (D := dOf L) hD ord [] none (by simpa using hs) (fun j hj => by simp at hj)
    rw [List.nil_append] at hpk
    have htd : t ∉ done := fun hh => by
      rw [← he] at hnd
      exact (List.nodup_append.1 hnd).2.2 t hh t (by simp) rfl
    have hmono : ∀ k, (L k).isSome = true → stepL P TH F ord L t k = L k := fun k hk => by
      refine stepL_other ?_
      rintro rfl
      rw [(h k).2 htd] at hk
      cases hk
    have hnew : ∃ c, Good F (stepL P TH F ord L t) t c ∧ Best n P TH F t c := by
      cases hq : pick (fun k => can P TH k t) (dOf L) ord none with
      | none =>
        rw [hq] at hpk
        refine ⟨[t], .last (d := F t) (by rw [stepL_same, hq]; simp [dO]) rfl, htn, ⟨[], rfl⟩, fun q hch => ?_⟩
        cases q with
        | nil => exact better_irrefl _
        | cons k q =>
          have hk := hch.2.2.lt k (List.mem_cons_self ..)
          have hkf : can P TH k t = false := hpk k ((hm k).2 hk)
          rw [hch.2.1] at hkf
          cases hkf
      | some k =>
        rw [hq] at hpk
        have hkn := (hm k).1 hpk.1
        obtain ⟨g, b⟩ := hCk k hkn hpk.2.1
        have hb := pick_best (C := C) hCk hpk hm
        obtain ⟨q0, hq0⟩ := b.2.1
        refine ⟨t :: C k, .link (d := F t + depth F (C k)) ?_ (g.mono hmono) rfl, chain_cons htn b.1 hq0 hpk.2.1, ⟨_, rfl⟩, fun q hch => ?_⟩
        · rw [stepL_same, hq]
          simp only [dO]
          rw [g.depth]
        · rw [better_cons]
          cases q with
          | nil => exact best_empty hF b.1
          | cons j q => exact hb j q hch.2.1 hch.2.2
    intro k
    constructor
    · intro hk
      rcases List.mem_append.1 hk with hk | hk
      · obtain ⟨c, g, b⟩ := (h k).1 hk
        exact ⟨c, g.mono hmono, b⟩
      · obtain rfl : k = t := by simpa using hk
        exact hnew
    · intro hk
      rw [stepL_other (by rintro rfl; exact hk (by simp))]
      exact (h k).2 (fun hh => hk (by simp [hh]))
def noLks : Lks := fun _ => none
include hTH hF hs hm hnd in
/-- THE DEEPEST CHAIN: what the links tell. -/
theorem deepest : (n = 0 → pick (fun _ => true) (dOf (linksOf P TH F ord ord noLks)) ord none = none) ∧
    (0 < n → ∃ k c, pick (fun _ => true) (dOf (linksOf P TH F ord ord noLks)) ord none = some k ∧ Good F (linksOf P TH F ord ord noLks) k c ∧ Chain n P TH c ∧ c ≠ [] ∧ ∀ r, r ≠ [] → Chain n P TH r → better P F r c = false) := by
  have hok := linksOf_ok hTH hF hs hm hnd ord [] noLks rfl (fun t => ⟨fun h => by simp at h, fun _ => rfl⟩)
  generalize linksOf P TH F ord ord noLks = L at hok
  have hCC : ∀ k, ∃ c, k < n → Good F L k c ∧ Best n P TH F k c := fun k => by
    by_cases hk : k < n
    · obtain ⟨c, hc⟩ := (hok k).1 ((hm k).2 hk)
      exact ⟨c, fun _ => hc⟩
    · exact ⟨[], fun hh => absurd hh hk⟩
  obtain ⟨C, hC⟩ : ∃ C : Nat → List Nat, ∀ k, k < n → Good F L k (C k) ∧ Best n P TH F k (C k) := ⟨fun k => Classical.choose (hCC k), fun k => Classical.choose_spec (hCC k)⟩
  have hD : ∀ j, true = true → 0 ≤ dOf L j := fun j _ => by
    by_cases hjn : j < n
    · obtain ⟨g, b⟩ := hC j hjn
      rw [g.depth]
      exact depth_nonneg hF b.1.lt
    · unfold dOf
      rw [(hok j).2 (fun hh => hjn ((hm j).1 hh))]
      exact Int.le_refl _
  have hpk := pick_spec (P := P) (H := fun _ => true) (D := dOf L) hD ord [] none (by simpa using hs) (fun j hj => by simp at hj)
  rw [List.nil_append] at hpk
  constructor
  · intro h0
    cases hq : pick (fun _ => true) (dOf L) ord none with
    | none => rfl
    | some k =>
      rw [hq] at hpk
      have := (hm k).1 hpk.1
      omega
  · intro h0
    cases hq : pick (fun _ => true) (dOf L) ord none with
    | none =>
      rw [hq] at hpk
      have := hpk 0 ((hm 0).2 h0)
      cases this
    | some k =>
      rw [hq] at hpk
      have hkn := (hm k).1 hpk.1
      obtain ⟨g, b⟩ := hC k hkn
      have hb := pick_best (C := C) (fun k hk _ => hC k hk) hpk hm
      obtain ⟨q0, hq0⟩ := b.2.1
      refine ⟨k, C k, rfl, g, b.1, by rw [hq0]; simp, fun r hr hch => ?_⟩
      cases r with
      | nil => exact absurd rfl hr
      | cons j r => exact hb j r rfl hch
end main
/-! ### All chains -/
theorem chains_chain : ∀ (f a : Nat), a < n → ∀ l ∈ chains n P TH f a, Chain n P TH l ∧ ∃ r, l = a :: r
  | 0, a, ha, l, hl => by
    obtain rfl : l = [a] := by simpa [chains] using hl
    exact ⟨ha, [], rfl⟩
  | f + 1, a, ha, l, hl => by
    rcases List.mem_cons.1 hl with rfl | hl
    · exact ⟨ha, [], rfl⟩
    · obtain ⟨i, hi, hl⟩ := List.mem_flatMap.1 hl
      obtain ⟨l', hl', rfl⟩ := List.mem_map.1 hl
      rw [List.mem_filter, List.mem_range] at hi
      obtain ⟨h1, r, rfl⟩ := chains_chain f i hi.1 l' hl'
      exact ⟨⟨ha, hi.2, h1⟩, _, rfl⟩
theorem chain_chains : ∀ (f a : Nat) (r : List Nat), r.length ≤ f → Chain n P TH (a :: r) → (a :: r) ∈ chains n P TH f a
  | 0, a, r, hf, _ => by
    obtain rfl : r = [] := List.eq_nil_of_length_eq_zero (by omega)
    simp [chains]
  | f + 1, a, [], _, _ => by simp [chains]
  | f + 1, a, b :: r, hf, h => by
    refine List.mem_cons_of_mem _ (List.mem_flatMap.2 ⟨b, ?_, List.mem_map.2 ⟨b :: r, chain_chains f b r (by simpa using hf) h.2.2, rfl⟩⟩)
    rw [List.mem_filter, List.mem_range]
    exact ⟨h.2.2.lt b (List.mem_cons_self ..), h.2.1⟩
/-- How many tasks have a higher priority. -/
def rank (n : Nat) (P : Nat → Int) (a : Nat) : Nat := ((List.range n).filter fun k => decide (P a < P k)).length
theorem rank_lt {a b : Nat} (ha : b < n) (h : P a < P b) : rank n P b < rank n P a := by
  unfold rank
  have h1 : ((List.range n).filter fun k => decide (P b < P k)) = (((List.range n).filter fun k => decide (P a < P k)).filter fun k => decide (P b < P k)) := by
    rw [List.filter_filter]
    refine List.filter_congr (fun x _ => ?_)
    by_cases hx : P b < P x
    · simp [hx]; omega
    · simp [hx]
  rw [h1]
  refine List.length_filter_lt_length_iff_exists.2 ⟨b, ?_, by simp⟩
  rw [List.mem_filter, List.mem_range]
  exact ⟨ha, by simpa using h⟩
theorem rank_le {a : Nat} (ha : a < n) : rank n P a < n := by
  unfold rank
  have := List.length_filter_lt_length_iff_exists (l := List.range n) (p := fun k => decide (P a < P k)) |>.2 ⟨a, List.mem_range.2 ha, by simp⟩
  simpa using this
theorem chain_len (hTH : ∀ i, i < n → P i ≤ TH i) : ∀ {r : List Nat} {a : Nat}, Chain n P TH (a :: r) → r.length ≤ rank n P a
  | [], _, _ => Nat.zero_le _
  | b :: r, a, h => by
    have h1 := chain_len hTH h.2.2
    have h2 := of_decide_eq_true h.2.1
    have h3 := hTH a h.1
    have := rank_lt (h.2.2.lt b (List.mem_cons_self ..)) (show P a < P b by omega)
    simp
    omega
/-- All chains there are, as going through all tasks makes them. -/
def allC (n : Nat) (P TH : Nat → Int) : List (List Nat) := (List.range n).flatMap fun i => chains n P TH n i
theorem all_iff (hTH : ∀ i, i < n → P i ≤ TH i) {l : List Nat} : l ∈ allC n P TH ↔ l ≠ [] ∧ Chain n P TH l := by
  unfold allC
  rw [List.mem_flatMap]
  constructor
  · rintro ⟨i, hi, hl⟩
    obtain ⟨h1, r, rfl⟩ := chains_chain n i (List.mem_range.1 hi) l hl
    exact ⟨by simp, h1⟩
  · rintro ⟨h0, h⟩
    cases l with
    | nil => exact absurd rfl h0
    | cons a r =>
      have ha := h.lt a (List.mem_cons_self ..)
      have h1 := chain_len hTH h
      have h2 := rank_le (P := P) ha
      exact ⟨a, List.mem_range.2 ha, chain_chains n a r (by omega) h⟩
/-- The fuel that is enough: more changes nothing. -/
theorem chains_fuel (hTH : ∀ i, i < n → P i ≤ TH i) : ∀ (f g a : Nat), a < n → rank n P a < f + 1 → rank n P a < g + 1 → chains n P TH f a = chains n P TH g a := by
  have base : ∀ a f, a < n → rank n P a = 0 → chains n P TH f a = [[a]] := fun a f ha h0 => by
    cases f with
    | zero => rfl
    | succ f =>
      unfold chains
      have : (List.range n).filter (fun i => can P TH i a) = [] := by
        rw [List.filter_eq_nil_iff]
        intro i hi hc
        have h1 := of_decide_eq_true hc
        have h2 := hTH a ha
        have := rank_lt (P := P) (a := a) (List.mem_range.1 hi) (by omega)
        omega
      rw [this]
      rfl
  intro f
  induction f with
  | zero =>
    intro g a ha h1 h2
    rw [base a 0 ha (by omega), base a g ha (by omega)]
  | succ f ih =>
    intro g a ha h1 h2
    cases g with
    | zero => rw [base a 0 ha (by omega), base a (f + 1) ha (by omega)]
    | succ g =>
      unfold chains
      congr 1
      have key : ∀ (m : List Nat), (∀ i ∈ m, i < n ∧ can P TH i a = true) → m.flatMap (fun i => (chains n P TH f i).map (a :: ·)) = m.flatMap (fun i => (chains n P TH g i).map (a :: ·)) := by
        intro m
        induction m with
        | nil => intro _; rfl
        | cons i m ihm =>
          intro hm
          obtain ⟨hi, hc⟩ := hm i (List.mem_cons_self ..)
          have h3 := of_decide_eq_true hc
          have h4 := hTH a ha
          have h5 := rank_lt (P := P) (a := a) hi (by omega)
          rw [List.flatMap_cons, List.flatMap_cons, ih g i hi (by omega) (by omega), ihm (fun j hj => hm j (List.mem_cons_of_mem _ hj))]
      refine key _ (fun i hi => ?_)
      rw [List.mem_filter, List.mem_range] at hi
      exact hi
end Chn
end Go.Proofs.YtlbinlhaejhobaaGreatDoor
/- chain: the map of links. -/
namespace Go.Proofs.YtlbinlhaejhobaaGreatDoor
namespace Bch
open Go Go.RowKit Go.Maps
theorem keyed3 : Keyed Tryz.prog 3 := int_keyed Tryz.underlying3
theorem wfI {z : Int} (h1 : -9223372036854775808 ≤ z) (h2 : z ≤ 9223372036854775807) : (Lit.int .i64 z).wf = true := by
  have e1 : IntKind.i64.min = -9223372036854775808 := by decide
  have e2 : IntKind.i64.max = 9223372036854775807 := by decide
  simp [Lit.wf, e1, e2]
  omega
theorem isKeyI (x : Int) : WideAt.IsKeyLit (.int .i64 x) := by simp [WideAt.IsKeyLit]
def linkD (y : Int × Int) : DataW Unit := .slice [.lit (.int .i64 y.1), .lit (.int .i64 y.2)] []
/-- How a link reads. -/
def linkR (v : Value) : Option (DataW Unit × List MemPlace) :=
  match v with
  | .agg ⟨[.int .i64 a, .int .i64 b]⟩ => some (linkD (a, b), [])
  | _ => none
def linkV (y : Int × Int) : Value := .agg #[.int .i64 y.1, .int .i64 y.2]
theorem linkR_mk (y : Int × Int) : linkR (linkV y) = some (linkD y, []) := rfl
theorem linkR_inv {v : Value} {y : Int × Int} {ps : List MemPlace} (h : linkR v = some (linkD y, ps)) : v = linkV y := by
  unfold linkR at h
  split at h
  · next a b =>
    simp [linkD] at h
    obtain ⟨⟨rfl, rfl⟩, _⟩ := h
    rfl
  · cases h
/-- The map as it reads: of whom nothing is told, zeros. -/
def MapL (w : World) (b n : Nat) (g : Int → Int × Int) : Prop :=
  ∃ D : DataW Unit, w.ownsMap Tryz.prog 3 linkR b n D ∧ ∀ t : Int, D.atKey (.int .i64 t) (linkD (0, 0)) = linkD (g t)
theorem MapL.kept {S : Nat → Prop} {w w' : World} {b n : Nat} {g : Int → Int × Int} (h : MapL w b n g) (ho : Only S w w') (hS : ¬ S b) : MapL w' b n g := by
  obtain ⟨D, ⟨es, clock, hb, hr⟩, h2⟩ := h
  exact ⟨D, ⟨es, clock, ho.heap hb hS, hr⟩, h2⟩
theorem MapL.lt {w : World} {b n : Nat} {g : Int → Int × Int} (h : MapL w b n g) : b < w.heap.size := by
  obtain ⟨D, h1, _⟩ := h
  exact h1.lt
theorem MapL.mono {w : World} {b n n' : Nat} {g : Int → Int × Int} (h : MapL w b n g) (hn : n ≤ n') : MapL w b n' g := by
  obtain ⟨D, h1, h2⟩ := h
  exact ⟨D, h1.mono hn, h2⟩
theorem MapL.made (w : World) : MapL (w.alloc (.map #[] 0)) w.heap.size 0 (fun _ => (0, 0)) := ⟨.map [], World.ownsMap_made _ _ _ _, fun _ => rfl⟩
theorem zero72 (w : World) : (zeroValue 100).run Tryz.prog w = .ok (linkV (0, 0)) w := by
  exact Tryz.zeroValue100 w
theorem MapL.look {w : World} {b n : Nat} {g : Int → Int × Int} (h : MapL w b n g) {t : Int} (h1 : -9223372036854775808 ≤ t) (h2 : t ≤ 9223372036854775807) : (Instr.lookup 96 (.map (some b)) (.int .i64 t) false).run Tryz.prog w = .ok (linkV (g t)) w := by
  obtain ⟨D, ho, hD⟩ := h
  obtain ⟨v, ps, hr, hv⟩ := ho.lookup keyed3 Tryz.underlying96 (zero72 w) (linkR_mk (0, 0)) (keyOf_int_mk (P := Tryz.prog) Tryz.underlying3 (wfI h1 h2))
  rw [hD] at hv
  rw [hr, linkR_inv hv]
theorem MapL.put {w : World} {b n : Nat} {g : Int → Int × Int} (h : MapL w b n g) {t : Int} (h1 : -9223372036854775808 ≤ t) (h2 : t ≤ 9223372036854775807) (hn : n < maxLen) (y : Int × Int) :
    ∃ w', (Instr.mapUpdate 96 (.map (some b)) (.int .i64 t) (linkV y)).run Tryz.prog w = .ok () w' ∧ MapL w' b (n + 1) (fun x => if x = t then y else g x) ∧ Only (fun k => k = b) w w' := by
  obtain ⟨D, ho, hD⟩ := h
  obtain ⟨w', hr, ho', hg⟩ := ho.update keyed3 Tryz.underlying96 hn (keyOf_int_mk (P := Tryz.prog) Tryz.underlying3 (wfI h1 h2)) (linkR_mk y)
  have ht := ho.tidy keyed3
  refine ⟨w', hr, ⟨_, ho', fun x => ?_⟩, (Only.refl (fun k => k = b) w).grown hg (fun k hk _ => by cases hk; rfl)⟩
  by_cases hx : x = t
  · subst hx
    rw [atKey_put_same ht.isMap (isKeyI _)]
    show linkD y = linkD (if x = x then y else g x)
    rw [if_pos rfl]
  · rw [atKey_put_other (by intro e; cases e; exact hx rfl), hD]
    show linkD (g x) = linkD (if x = t then y else g x)
    rw [if_neg hx]
/-- What the map tells of links. -/
def lkG (L : Chn.Lks) (x : Int) : Int × Int :=
  if 0 ≤ x then (match L x.toNat with | none => (0, 0) | some (d, none) => (d, -1) | some (d, some k) => (d, (k : Int))) else (0, 0)
def optZ : Option Nat → Int
  | none => -1
  | some k => (k : Int)
theorem lkG_depth (L : Chn.Lks) (f : Option Nat) : (lkG L (optZ f)).1 = Chn.dO (Chn.dOf L) f := by
  cases f with
  | none => rfl
  | some k =>
    show (lkG L (k : Int)).1 = Chn.dOf L k
    unfold lkG
    rw [if_pos (by omega), Int.toNat_natCast]
    unfold Chn.dOf
    cases h : L k with
    | none => rfl
    | some y =>
      obtain ⟨d, f⟩ := y
      cases f <;> rfl
theorem lkG_at {L : Chn.Lks} {k : Nat} {d : Int} {f : Option Nat} (h : L k = some (d, f)) : lkG L (k : Int) = (d, optZ f) := by
  unfold lkG
  rw [if_pos (by omega), Int.toNat_natCast, h]
  cases f <;> rfl
theorem lkG_upd {L L' : Chn.Lks} {t : Nat} {d : Int} {f : Option Nat} (h : L' t = some (d, f)) (ho : ∀ k, k ≠ t → L' k = L k) : (fun x : Int => if x = (t : Int) then (d, optZ f) else lkG L x) = lkG L' := by
  funext x
  by_cases hx : x = (t : Int)
  · subst hx
    rw [if_pos rfl, lkG_at h]
  · rw [if_neg hx]
    unfold lkG
    by_cases h0 : 0 ≤ x
    · rw [if_pos h0, if_pos h0, ho x.toNat (by omega)]
    · rw [if_neg h0, if_neg h0]
theorem lkG_none : lkG Chn.noLks = fun _ => (0, 0) := by
  funext x
  unfold lkG Chn.noLks
  split <;> rfl
end Bch
end Go.Proofs.YtlbinlhaejhobaaGreatDoor
/- chain: best. -/
namespace Go.Proofs.YtlbinlhaejhobaaGreatDoor
namespace Bch
open Go Go.RowKit Go.Maps Go.Shelf
attribute [local go_sem] Oper.semAt_some
theorem pick_snoc (H : Nat → Bool) (D : Nat → Int) (x : Nat) : ∀ (l : List Nat) (f : Option Nat), Chn.pick H D (l ++ [x]) f = (if H x = true ∧ Chn.dO D (Chn.pick H D l f) ≤ D x then some x else Chn.pick H D l f)
  | [], _ => rfl
  | _ :: l, _ => pick_snoc H D x l _
theorem pick_mem (H : Nat → Bool) (D : Nat → Int) : ∀ (l : List Nat) (f : Option Nat) (k : Nat), Chn.pick H D l f = some k → f = some k ∨ k ∈ l
  | [], _, k, h => .inl h
  | t :: l, _, k, h => by
    rcases pick_mem H D l _ k h with h1 | h1
    · split at h1
      · cases h1; exact .inr (by simp)
      · exact .inl h1
    · exact .inr (by simp [h1])
theorem ordL_lt {ts : List TaskV} {x : Nat} (h : x ∈ ordL ts) : x < ts.length ∧ ts.length ≤ 12 := by
  unfold ordL at h
  split at h
  · next hr => exact ⟨order_lt h, (of_decide_eq_true hr).1⟩
  · simp at h
theorem ordL_len (ts : List TaskV) : (ordL ts).length ≤ 12 := by
  unfold ordL
  split
  · next hr => rw [order_length]; exact (of_decide_eq_true hr).1
  · simp
theorem field0 (a b : Int) (w : World) : Sem.run Tryz.prog (Instr.field 100 (.agg #[.int .i64 a, .int .i64 b]) 0) w = .ok (.int .i64 a) w := by kernel_rfl
theorem field1 (a b : Int) (w : World) : Sem.run Tryz.prog (Instr.field 100 (.agg #[.int .i64 a, .int .i64 b]) 1) w = .ok (.int .i64 b) w := by kernel_rfl
/-- Between two rounds: who is picked so far, in its box. -/
def BI (w4 : World) (q3 : Nat) (H : Nat → Bool) (D : Nat → Int) (X : Nat → Prop) (pre : List Nat) (W : World) : Prop :=
  W.heap[q3]? = some (.cells [Value.int .i64 (optZ (Chn.pick H D pre none))].toArray 3 (0, 0)) ∧ ¬ X q3 ∧ (∀ k, X k → w4.heap.size ≤ k) ∧ Only (fun k => k = q3) w4 W
theorem BI.steady {w4 : World} {q3 : Nat} {H : Nat → Bool} {D : Nat → Int} : Steady (BI w4 q3 H D) := by
  refine ⟨fun {X pre A C} h ho => ?_, fun {X X' pre A} hX h => ?_⟩
  · obtain ⟨h1, h2, h3, h4⟩ := h
    have hl := row_lt h1
    have := h4.size
    refine ⟨ho.heap h1 h2, fun hx => ?_, fun k hk => ?_, h4.trans ho (fun x hx h => by have := h3 x h; omega)⟩
    · rcases hx with hx | hx
      · exact h2 hx
      · omega
    · rcases hk with hk | hk
      · exact h3 k hk
      · omega
  · obtain ⟨h1, h2, h3, h4⟩ := h
    exact ⟨h1, fun hx => h2 (hX _ hx), fun k hk => h3 k (hX k hk), h4⟩
set_option maxRecDepth 100000 in
set_option maxHeartbeats 4000000 in
theorem best_any {w : World} {c : ConfV} {ts : List TaskV} (hT : TasksAt w c.ta ts) (hn : c.ta.n ≤ 9223372036854775807) {b m : Nat} {g : Int → Int × Int} (hM : MapL w b m g) {hf : Nat} {hcap : Array Value} (eg : ∀ args w, (callFunc hf args).run Tryz.prog w = .ok (.enter hf args) w) {H : Nat → Bool}
    (hH : ∀ W, Only (fun _ => False) w W → ∀ i, i < ts.length → Calls Tryz.prog hf (#[.int .i64 (i : Int)] ++ hcap) W (GrowB (H i) W)) {D : Nat → Int} (hD : ∀ f : Option Nat, (g (optZ f)).1 = Chn.dO D f) :
    Calls Tryz.prog 105 #[c.val, .map (some b), .func (.func hf) #[] hcap] w (GrowI (optZ (Chn.pick H D (ordL ts) none)) w) := by
  obtain ⟨q, hq⟩ : ∃ q, q = w.heap.size := ⟨_, rfl⟩
  obtain ⟨W4, hW4⟩ : ∃ W4, W4 = (((w.alloc (.cells c.cells.toArray 27)).alloc (.cells #[.map (some b)] 96)).alloc (.cells #[.func (.func hf) #[] hcap] 85)).alloc (.cells #[.int .i64 (-1)] 3) := ⟨_, rfl⟩
  have hO4 : Only (fun _ => False) w W4 := by rw [hW4]; exact ((((Only.refl _ w).alloc _).alloc _).alloc _).alloc _
  have hs4 : W4.heap.size = q + 4 := by rw [hW4, hq]; simp
  have k0 : W4.heap[q]? = some (.cells c.cells.toArray 27 (0, 0)) := by rw [hW4]; exact heap_kept_alloc (heap_kept_alloc (heap_kept_alloc (heap_new_at _ _ hq.symm) _) _) _
  have k1 : W4.heap[q + 1]? = some (.cells [Value.map (some b)].toArray 96 (0, 0)) := by rw [hW4]; exact heap_kept_alloc (heap_kept_alloc (heap_new_at _ _ (by simp [hq])) _) _
  have k2 : W4.heap[q + 1 + 1]? = some (.cells [Value.func (.func hf) #[] hcap].toArray 85 (0, 0)) := by rw [hW4]; exact heap_kept_alloc (heap_new_at _ _ (by simp [hq])) _
  have k3 : W4.heap[q + 1 + 1 + 1]? = some (.cells [Value.int .i64 (-1)].toArray 3 (0, 0)) := by rw [hW4]; exact heap_new_at _ _ (by simp [hq])
  have hbl := hM.lt
  have hbox := Lib.hid (fun W (ho : Only (fun k => k = q + 1 + 1 + 1) W4 W) => show W.cell? ⟨q + 1, 0, none⟩ = some (.map (some b)) ∧ W.cell? ⟨q + 1 + 1, 0, none⟩ = some (.func (.func hf) #[] hcap) ∧ q + 1 + 1 < W.heap.size ∧ MapL W b m g ∧ Only (fun _ => False) w W from
    ⟨row_cell (ho.heap k1 (by omega)) (i := 0) rfl, row_cell (ho.heap k2 (by omega)) (i := 0) rfl, row_lt (ho.heap k2 (by omega)), (hM.kept hO4 (fun h => h)).kept ho (by omega), hO4.trans ho (fun x hx e => by omega)⟩)
  have hdw := Lib.hid (downward_any (hT.new hO4) hn)
  have d0 := row_cell k0 (i := 0) rfl
  have d1 := row_cell k0 (i := 1) rfl
  have d2 := row_cell k0 (i := 2) rfl
  have d3 := row_cell k0 (i := 3) rfl
  have d4 := row_cell k0 (i := 4) rfl
  have d5 := row_cell k0 (i := 5) rfl
  have d6 := row_cell k0 (i := 6) rfl
  have d7 := row_cell k0 (i := 7) rfl
  have d8 := row_cell k0 (i := 8) rfl
  have d9 := row_cell k0 (i := 9) rfl
  have hH' := Lib.hid hH
  have hD' := Lib.hid hD
  have hk3' := Lib.hid k3
  have hO4' := Lib.hid hO4
  have hs4' := Lib.hid hs4
  have hq' := Lib.hid hq
  have hlt := Lib.hid (fun x (h : x ∈ ordL ts) => ordL_lt h)
  have hll := ordL_len ts
  obtain ⟨L, hL⟩ : ∃ L, L = ordL ts := ⟨_, rfl⟩
  rw [← hL] at hdw hlt hll ⊢
  unfold ConfV.val at hdw ⊢
  unfold ConfV.cells at *
  have hW4' := Lib.hid hW4
  clear hT hn hM hH hD k0 k1 k2 k3 hO4 hs4 hW4 hL hq hbl
  obtain ⟨Z, hZ⟩ : ∃ Z, Z = GrowI (optZ (Chn.pick H D L none)) w := ⟨_, rfl⟩
  rw [← hZ]
  have hZ' := Lib.hid hZ
  clear hZ
  refine callsIn_wide (n := 3) |>.1 ?_
  refine callsIn_of_wp_marks Tryz.func105 rfl trivial ?_ rfl
  simp only [Tryz.ntmps105, List.size_toArray, List.length_cons, List.length_nil, Nat.reduceAdd, Nat.reduceSub, Array.replicate_succ, Array.replicate_zero, List.push_toArray, List.append_toArray, List.nil_append, List.cons_append]
  gi_wp2_with fail
  rw [← hq'.out]
  rw [← hW4'.out]
  refine ⟨trivial, (callsIn_wide.2 hdw.out).mono ?_⟩
  rintro e W5 ⟨Y, A, cap, h, rfl, hYb, hWin, hYge, hhge, hO5⟩
  obtain ⟨n, hn⟩ : ∃ n, n = L.length := ⟨_, rfl⟩
  rw [← hn] at hYb hWin hll
  have hit := Lib.hid (seq_iter (cap := cap) (A := A) (row_cell hYb (i := 0) rfl) hWin hn.symm (by omega))
  have hRD : ∀ k, RDs Y h k → k < W5.heap.size ∧ q + 4 ≤ k := fun k hk => by
    have := hs4'.out
    rcases hk with rfl | hk
    · exact ⟨row_lt hYb, by omega⟩
    · exact ⟨hWin.lt k hk, by have := hhge k hk; omega⟩
  have hRD' := Lib.hid hRD
  have k3 := hO5.heap hk3'.out (fun h => h)
  have hO5' := Lib.hid hO5
  have hsz5 := hO5.size
  clear hYb hWin hYge hhge hn hRD hdw d0 d1 d2 d3 d4 d5 d6 d7 d8 d9 hO5
  gi_wp2
  refine wpIn_range rfl (enters_of Tryz.func181 (by kernel_rfl) rfl) hit.out (Only.refl _ W5) (fun k hk => (hRD'.out k hk).1) (fun _ => rfl)
    (BI W4 (q + 1 + 1 + 1) H D) (fun _ _ _ _ => False) BI.steady (fun _ => ⟨fun h _ => h, fun _ h => h⟩) ⟨k3, fun h => h, fun k hk => hk.elim, hO5'.out.mono (fun _ _ h => h.elim)⟩ ?round ?done ?stop
  case round =>
    intro l1 DD X pre x W6 hl1 hDD hXl hXD hl1' hDz hI hpre
    unfold encN
    gi_wp2
    refine ⟨Only.refl _ _, fun W7 hO7 hI7 => ?_⟩
    obtain ⟨g1, g2, g3, g4⟩ := hI7
    have hxL : x ∈ L := (List.IsPrefix.subset hpre) (by simp)
    obtain ⟨hxn, hx12⟩ := hlt.out x hxL
    obtain ⟨b1, b2, b3, b4, b5⟩ := hbox.out W7 g4
    have hcall := Lib.hid (hH'.out W7 b5 x hxn)
    have hx := Lib.hid (And.intro g1 (And.intro g2 (And.intro g3 g4)))
    have hsn := pick_snoc H D x pre none
    have hfm := Lib.hid (fun k (hk : Chn.pick H D pre none = some k) => show k < ts.length from by
      rcases pick_mem H D pre none k hk with h | h
      · cases h
      · exact (hlt.out k ((List.IsPrefix.subset hpre) (by simp [h]))).1)
    obtain ⟨f, hf⟩ : ∃ f, f = Chn.pick H D pre none := ⟨_, rfl⟩
    rw [← hf] at hsn hfm hx
    have hf' := Lib.hid hf
    obtain ⟨B, hB⟩ : ∃ B, B = H x := ⟨_, rfl⟩
    rw [← hB] at hcall hsn
    have hsn' := Lib.hid hsn
    have hx12' := Lib.hid (And.intro hxn hx12)
    clear hI hO7 g1 g2 g3 g4 b4 b5 hf hB hsn hxL hpre hxn hx12
    gi_wp2_with fail
    refine ⟨trivial, CallsIn.inRound l1 ((callsIn_wide.2 hcall.out).mono ?_)⟩
    rintro e W8 ⟨rfl, ho8⟩
    obtain ⟨g1, g2, g3, g4⟩ := hx.out
    have hO8 := Lib.hid ho8
    have g18 := ho8.heap g1 (fun h => h)
    have g48 := g4.trans ho8 (fun _ _ h => h.elim)
    obtain ⟨b1, b2, b3, b4, b5⟩ := hbox.out W8 g48
    have hb4 := Lib.hid b4
    have hx8 := Lib.hid (And.intro g18 g48)
    have hRX := Lib.hid (show ¬ RDs Y h (q + 1 + 1 + 1) ∧ ¬ X (q + 1 + 1 + 1) from ⟨fun hr => by have := (hRD'.out _ hr).2; omega, g2⟩)
    have c3 := row_cell g18 (i := 0) rfl
    have f3 := row_free g18 0
    have l3 := row_lt g18
    have hXX := Lib.hid g3
    clear ho8 g1 g2 g3 g4 g18 g48 b4 b5
    have hdone := Lib.hid (fun (hp : Chn.pick H D (pre ++ [x]) none = f) => show roundEnd (RDs Y h) X l1 DD (BI W4 (q + 1 + 1 + 1) H D) (fun _ _ _ _ => False) (pre ++ [x]) W7 .normal ⟨#[], []⟩ W8 from
      ⟨hO8.out.mono (fun _ _ h => h.elim), by rw [hp]; exact hx8.out.1, hRX.out.2, hXX.out, hx8.out.2⟩)
    cases B
    · have hp : Chn.pick H D (pre ++ [x]) none = f := by rw [hsn'.out, if_neg (by simp)]
      have hd := Lib.hid (hdone.out hp)
      clear hp
      gi_wp2
      exact hd.out
    · have hxb : (x : Int) ≤ 12 := by have := hx12'.out; omega
      have lk1 := hb4.out.look (t := (x : Int)) (by omega) (by omega)
      have hfz : -1 ≤ optZ f ∧ optZ f ≤ 12 := by
        cases hff : f with
        | none => exact ⟨by decide, by decide⟩
        | some k =>
          have := hfm.out k hff
          have := hx12'.out
          show -1 ≤ (k : Int) ∧ (k : Int) ≤ 12
          omega
      have lk2 := hb4.out.look (t := optZ f) (by omega) (by omega)
      unfold linkV at lk1 lk2
      have e1 := hD'.out (some x)
      have e2 := hD'.out f
      obtain ⟨gx, hgx⟩ : ∃ gx, gx = g (x : Int) := ⟨_, rfl⟩
      obtain ⟨gf, hgf⟩ : ∃ gf, gf = g (optZ f) := ⟨_, rfl⟩
      rw [← hgx] at lk1
      rw [← hgf] at lk2 e2
      rw [show optZ (some x) = (x : Int) from rfl, ← hgx] at e1
      obtain ⟨zf, hzf⟩ : ∃ zf, zf = optZ f := ⟨_, rfl⟩
      rw [← hzf] at lk2 c3
      have he := Lib.hid (And.intro e1 e2)
      have hzf' := Lib.hid hzf
      clear hgx hgf hfz e1 e2 hzf
      obtain ⟨gx1, gx2⟩ := gx
      obtain ⟨gf1, gf2⟩ := gf
      dsimp only at lk1 lk2 he
      have fl0 := field0
      by_cases hge : gf1 ≤ gx1
      · have hp := Lib.hid (show Chn.pick H D (pre ++ [x]) none = some x by rw [hsn'.out, if_pos ⟨rfl, by rw [← he.out.2]; have := he.out.1; simp only [Chn.dO] at this; omega⟩])
        gi_wp2
        have ho9 : Only (fun k => k = q + 1 + 1 + 1) W8 (W8.setCell ⟨q + 1 + 1 + 1, 0, none⟩ (.int .i64 (x : Int))) := (Only.refl (fun k => k = q + 1 + 1 + 1) W8).setCell (p := ⟨q + 1 + 1 + 1, 0, none⟩) (fun _ => rfl) _
        refine ⟨(hO8.out.mono (fun _ _ h => h.elim)).trans ho9 (fun k _ e => by rw [e]; exact hRX.out), ?_, hRX.out.2, hXX.out, hx8.out.2.trans' ho9⟩
        rw [hp.out]
        exact row_set hx8.out.1 0 _
      · have hp : Chn.pick H D (pre ++ [x]) none = f := by
          rw [hsn'.out, if_neg]
          rintro ⟨-, h2⟩
          rw [← he.out.2] at h2
          have := he.out.1
          simp only [Chn.dO] at this
          omega
        have hd := Lib.hid (hdone.out hp)
        clear hp
        gi_wp2
        exact hd.out
  case done =>
    intro DD X W6 hD hXD hI hK
    obtain ⟨g1, g2, g3, g4⟩ := hI
    have c3 := row_cell g1 (i := 0) rfl
    have l3 := row_lt g1
    have hfin := Lib.hid (show Z (.returned (.int .i64 (optZ (Chn.pick H D L none)))) (W6.putObj DD (.deferred none)) from by
      rw [hZ'.out]
      refine ⟨rfl, (hO4'.out.trans g4 (fun x hx e => by have := hq'.out; omega)).lay (fun hd => by have := g3 DD hXD; have := hs4'.out; have := hq'.out; omega) _⟩)
    clear g1 g2 g3 g4
    gi_wp2
    refine ⟨by simp, .inl ⟨_, _, rfl, run_takeDeferred hK, ?_⟩⟩
    refine ⟨_, results_tmp rfl _ _ _, ?_⟩
    exact hfin.out
  case stop =>
    intro _ _ _ _ _ _ _ _ h
    exact h.elim
end Bch
end Go.Proofs.YtlbinlhaejhobaaGreatDoor
