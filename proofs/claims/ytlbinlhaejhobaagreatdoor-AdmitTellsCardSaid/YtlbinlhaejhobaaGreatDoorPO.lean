/- Merged: BcGrp BcGcl BcGri BcFx26. -/
import Derived.Test.YtlbinlhaejhobaaGreatDoorPN
import Derived.Deep.RegionHeldLaw
/- chain: groups of tasks: rows of numbers behind a row. -/
namespace Go.Proofs.YtlbinlhaejhobaaGreatDoor
namespace Bch
open Go Go.RowKit Go.Maps Go.Shelf
/-- Whether one of two tasks can displace the other. -/
def clash (ts : List TaskV) (i k : Nat) : Bool := canB ts i k || canB ts k i
def meetsB (ts : List TaskV) (x : Nat) (L : List Nat) : Bool := L.any fun k => clash ts k x
/-- The first group that bears the task takes it. -/
def putG (ts : List TaskV) (x : Nat) : List (List Nat) → List (List Nat)
  | [] => [[x]]
  | L :: gs => if meetsB ts x L = true then L :: putG ts x gs else (L ++ [x]) :: gs
def groupsOf (ts : List TaskV) (l : List Nat) : List (List Nat) := l.foldl (fun gs x => putG ts x gs) []
theorem groupsOf_snoc (ts : List TaskV) (l : List Nat) (x : Nat) : groupsOf ts (l ++ [x]) = putG ts x (groupsOf ts l) := by
  unfold groupsOf
  rw [List.foldl_append]
  rfl
theorem putG_all {ts : List TaskV} {x : Nat} : ∀ {gs : List (List Nat)}, (∀ (j : Nat) L, gs[j]? = some L → meetsB ts x L = true) → putG ts x gs = gs ++ [[x]]
  | [], _ => rfl
  | L :: gs, h => by
    unfold putG
    rw [if_pos (h 0 L rfl), putG_all (gs := gs) (fun j M hM => h (j + 1) M (by simpa using hM))]
    rfl
theorem putG_at {ts : List TaskV} {x : Nat} : ∀ {gs : List (List Nat)} {j : Nat} {L : List Nat}, gs[j]? = some L → meetsB ts x L = false → (∀ (k : Nat) M, k < j → gs[k]? = some M → meetsB ts x M = true) → putG ts x gs = gs.set j (L ++ [x])
  | [], j, L, h, _, _ => by simp at h
  | M :: gs, 0, L, h, hL, _ => by
    obtain rfl : M = L := by simpa using h
    unfold putG
    rw [if_neg (by rw [hL]; simp)]
    rfl
  | M :: gs, j + 1, L, h, hL, hk => by
    unfold putG
    rw [if_pos (hk 0 M (by omega) rfl), putG_at (gs := gs) (j := j) (L := L) (by simpa using h) hL (fun k N hlt hN => hk (k + 1) N (by omega) (by simpa using hN))]
    rfl
theorem putG_len {ts : List TaskV} {x : Nat} : ∀ {gs : List (List Nat)}, (putG ts x gs).length ≤ gs.length + 1
  | [] => by simp [putG]
  | L :: gs => by
    unfold putG
    split
    · have := putG_len (ts := ts) (x := x) (gs := gs); simp; omega
    · simp
theorem groups_len {ts : List TaskV} : ∀ (l : List Nat) (gs : List (List Nat)), (l.foldl (fun gs x => putG ts x gs) gs).length ≤ gs.length + l.length
  | [], gs => by simp
  | x :: l, gs => by
    have h1 := groups_len (ts := ts) l (putG ts x gs)
    have h2 := putG_len (ts := ts) (x := x) (gs := gs)
    simp only [List.foldl_cons, List.length_cons]
    omega
/-- All of the groups' numbers are of the row. -/
theorem putG_mem {ts : List TaskV} {x : Nat} : ∀ {gs : List (List Nat)} {M : List Nat}, M ∈ putG ts x gs → M = [x] ∨ M ∈ gs ∨ ∃ L ∈ gs, M = L ++ [x]
  | [], M, h => by
    simp [putG] at h
    exact .inl h
  | L :: gs, M, h => by
    unfold putG at h
    split at h
    · rcases List.mem_cons.1 h with rfl | h
      · exact .inr (.inl (by simp))
      · rcases putG_mem h with h1 | h1 | ⟨N, h1, h2⟩
        · exact .inl h1
        · exact .inr (.inl (by simp [h1]))
        · exact .inr (.inr ⟨N, by simp [h1], h2⟩)
    · rcases List.mem_cons.1 h with rfl | h
      · exact .inr (.inr ⟨L, by simp, rfl⟩)
      · exact .inr (.inl (by simp [h]))
theorem groups_row {ts : List TaskV} : ∀ (l : List Nat) (m : Nat) (gs : List (List Nat)), (∀ M ∈ gs, M.length ≤ m) → ∀ M ∈ l.foldl (fun gs x => putG ts x gs) gs, M.length ≤ m + l.length
  | [], m, gs, h, M, hM => by simpa using h M hM
  | x :: l, m, gs, h, M, hM => by
    have h1 := groups_row (ts := ts) l (m + 1) (putG ts x gs) (fun N hN => by
      rcases putG_mem hN with rfl | h1 | ⟨L, h1, rfl⟩
      · simp
      · have := h N h1; omega
      · have := h L h1; simp; omega) M hM
    simp only [List.length_cons]
    omega
/-- Rows of numbers behind a row, all blocks apart. -/
structure GrpAt (w : World) (base : Nat) (p : Option Addr) (cap : Nat) (ho : Option Nat) (V : List Value) (H : Nat → Option Nat) (gs : List (List Nat)) : Prop where
  o : Win w 24 1 (.slice p gs.length cap) ho gs.length V
  ofresh : ∀ b, ho = some b → base ≤ b
  row : ∀ (j : Nat) L, gs[j]? = some L → ∃ A c, V[j]? = some (.slice A L.length c) ∧ Win w 3 1 (.slice A L.length c) (H j) L.length (dat L)
  fresh : ∀ j b, j < gs.length → H j = some b → base ≤ b ∧ ho ≠ some b
  sep : ∀ j k b, j < gs.length → k < gs.length → j ≠ k → H j = some b → H k ≠ some b
theorem GrpAt.nil (w : World) (base : Nat) : GrpAt w base none 0 none [] (fun _ => none) [] :=
  ⟨Win.nil _ _ _, fun b h => by (cases h), fun j L h => by simp at h, fun j b h => by simp at h, fun j k b h => by simp at h⟩
theorem GrpAt.kept {S : Nat → Prop} {w w' : World} {base : Nat} {p : Option Addr} {cap : Nat} {ho : Option Nat} {V : List Value} {H : Nat → Option Nat} {gs : List (List Nat)} (h : GrpAt w base p cap ho V H gs) (hO : Only S w w') (h1 : ∀ b, ho = some b → ¬ S b) (h2 : ∀ j b, j < gs.length → H j = some b → ¬ S b) :
    GrpAt w' base p cap ho V H gs :=
  ⟨h.o.kept hO h1, h.ofresh, fun j L hj => by
    obtain ⟨A, c, e, hW⟩ := h.row j L hj
    exact ⟨A, c, e, hW.kept hO (fun b hb => h2 j b (List.getElem?_eq_some_iff.1 hj).1 hb)⟩, h.fresh, h.sep⟩
theorem GrpAt.new {w w' : World} {base : Nat} {p : Option Addr} {cap : Nat} {ho : Option Nat} {V : List Value} {H : Nat → Option Nat} {gs : List (List Nat)} (h : GrpAt w base p cap ho V H gs) (hO : Only (fun _ => False) w w') : GrpAt w' base p cap ho V H gs :=
  h.kept hO (fun _ _ h => h) (fun _ _ _ _ h => h)
theorem GrpAt.lt {w : World} {base : Nat} {p : Option Addr} {cap : Nat} {ho : Option Nat} {V : List Value} {H : Nat → Option Nat} {gs : List (List Nat)} (h : GrpAt w base p cap ho V H gs) {j b : Nat} (hj : j < gs.length) (hb : H j = some b) : b < w.heap.size := by
  obtain ⟨A, c, e, hW⟩ := h.row j _ (List.getElem?_eq_getElem hj)
  exact hW.lt b hb
/-- An element of a row set. -/
theorem _root_.Go.Proofs.YtlbinlhaejhobaaGreatDoor.Win.setAt {w : World} {e : TypeId} {g off n cap : Nat} {h : Option Nat} {xs : List Value} (hW : Win w e 1 (.slice (some ⟨g, off, none⟩) n cap) h n xs) (hn : 0 < n) (i : Nat) (u : Value) :
    h = some g ∧ Win (w.setCell ⟨g, off + i, none⟩ u) e 1 (.slice (some ⟨g, off, none⟩) n cap) h n (xs.set i u) := by
  obtain ⟨hl, p, cap', hv, h1, h2, h3⟩ := hW
  simp only [Value.slice.injEq, true_and] at hv
  obtain ⟨rfl, rfl⟩ := hv
  rcases h3 with h3 | ⟨g', off', L, hg, hp, hh, h4, h5⟩
  · omega
  · simp only [Option.some.injEq, Addr.mk.injEq, and_true] at hp
    obtain ⟨rfl, rfl⟩ := hp
    refine ⟨hg, by simpa using hl, _, cap, rfl, h1, h2, .inr ⟨g, off, L.set (off + i) u, hg, rfl, row_set hh _ _, by simpa using h4, ?_⟩⟩
    rw [← h5, List.drop_set, if_neg (by omega), show off + i - off = i by omega, List.take_set]
def updH (H : Nat → Option Nat) (j : Nat) (h : Option Nat) : Nat → Option Nat := fun k => if k = j then h else H k
theorem updH_same (H : Nat → Option Nat) (j : Nat) (h : Option Nat) : updH H j h j = h := if_pos rfl
theorem updH_other {H : Nat → Option Nat} {j k : Nat} (h : Option Nat) (hk : k ≠ j) : updH H j h k = H k := if_neg hk
/-- A new group of one. -/
theorem GrpAt.add {w W2 w' : World} {base : Nat} {p p' : Option Addr} {cap cap' : Nat} {ho h' : Option Nat} {V : List Value} {H : Nat → Option Nat} {gs : List (List Nat)} {X x : Nat} (h : GrpAt w base p cap ho V H gs) (hb : base ≤ w.heap.size)
    (hO2 : Only (fun _ => False) w W2) (hX : W2.heap[X]? = some (.cells #[.int .i64 (x : Int)] 3 (0, 0))) (hXn : w.heap.size ≤ X) (hO : Only (fun k => some k = ho) W2 w') (hh : h' = ho ∨ ∃ g, h' = some g ∧ W2.heap.size ≤ g)
    (hW : Win w' 24 1 (.slice p' (gs.length + 1) cap') h' (gs.length + 1) (V ++ [.slice (some ⟨X, 0, none⟩) 1 1])) : GrpAt w' base p' cap' h' (V ++ [.slice (some ⟨X, 0, none⟩) 1 1]) (updH H gs.length (some X)) (gs ++ [[x]]) := by
  have hXl := row_lt hX
  have hoX : ho ≠ some X := fun e => by have := h.o.lt X e; omega
  have hVl : V.length = gs.length := by have := h.o.1; omega
  have hhX : ∀ b, h' = some b → b = X → False := fun b e1 e2 => by
    subst e2
    rcases hh with hh | ⟨g, hg, hge⟩
    · exact hoX (hh ▸ e1)
    · rw [hg] at e1; cases e1; omega
  have hge : W2.heap.size ≥ w.heap.size := hO2.size
  have hfr : ∀ b, h' = some b → base ≤ b := fun b e => by
    rcases hh with hh | ⟨g, hg, hge'⟩
    · exact h.ofresh b (hh ▸ e)
    · rw [hg] at e; cases e; omega
  have hne : ∀ j b, j < gs.length → H j = some b → h' ≠ some b := fun j b hj e e' => by
    rcases hh with hh | ⟨g, hg, hge'⟩
    · exact (h.fresh j b hj e).2 (hh ▸ e')
    · rw [hg] at e'; cases e'; have := h.lt hj e; omega
  refine ⟨by simpa using hW, hfr, fun j L hj => ?_, fun j b hj e => ?_, fun j k b hj hk hjk e e' => ?_⟩
  · by_cases hjn : j < gs.length
    · rw [List.getElem?_append_left hjn] at hj
      obtain ⟨A, c, e, hw⟩ := h.row j L hj
      refine ⟨A, c, by rw [List.getElem?_append_left (by omega)]; exact e, ?_⟩
      rw [updH_other _ (by omega)]
      exact (hw.kept hO2 (fun _ _ h => h)).kept hO (fun b hb he => (h.fresh j b hjn hb).2 he.symm)
    · have hjl : j = gs.length := by have := (List.getElem?_eq_some_iff.1 hj).1; simp at this; omega
      subst hjl
      obtain rfl : L = [x] := by simpa using hj.symm
      refine ⟨some ⟨X, 0, none⟩, 1, by rw [← hVl]; simp, ?_⟩
      rw [updH_same]
      exact Win.of_row (L := [_]) (hO.heap hX (fun e => hoX e.symm)) rfl (show 1 ≤ maxLen by decide)
  · by_cases hjn : j < gs.length
    · rw [updH_other _ (by omega)] at e
      exact ⟨(h.fresh j b hjn e).1, hne j b hjn e⟩
    · obtain rfl : j = gs.length := by simp at hj; omega
      rw [updH_same] at e
      cases e
      exact ⟨by omega, fun e' => hhX X e' rfl⟩
  · by_cases hjn : j < gs.length
    · rw [updH_other _ (by omega)] at e
      by_cases hkn : k < gs.length
      · rw [updH_other _ (by omega)] at e'
        exact h.sep j k b hjn hkn hjk e e'
      · obtain rfl : k = gs.length := by simp at hk; omega
        rw [updH_same] at e'
        cases e'
        have := h.lt hjn e
        omega
    · obtain rfl : j = gs.length := by simp at hj; omega
      rw [updH_same] at e
      cases e
      have hkn : k < gs.length := by simp at hk; omega
      rw [updH_other _ (by omega)] at e'
      have := h.lt hkn e'
      omega
/-- A group that takes one more. -/
theorem GrpAt.grow {w W1 w' : World} {base : Nat} {go off cap : Nat} {ho h' : Option Nat} {V : List Value} {H : Nat → Option Nat} {gs : List (List Nat)} {j x : Nat} {L : List Nat} {A' : Option Addr} {c' : Nat} (h : GrpAt w base (some ⟨go, off, none⟩) cap ho V H gs) (hb : base ≤ w.heap.size) (hj : gs[j]? = some L)
    (hO1 : Only (fun _ => False) w W1) (hO : Only (fun k => some k = H j) W1 w') (hh : h' = H j ∨ ∃ g, h' = some g ∧ W1.heap.size ≤ g)
    (hW : Win w' 3 1 (.slice A' (L.length + 1) c') h' (L.length + 1) (dat L ++ [.int .i64 (x : Int)])) :
    GrpAt (w'.setCell ⟨go, off + j, none⟩ (.slice A' (L.length + 1) c')) base (some ⟨go, off, none⟩) cap ho (V.set j (.slice A' (L.length + 1) c')) (updH H j h') (gs.set j (L ++ [x])) := by
  have hjn := (List.getElem?_eq_some_iff.1 hj).1
  have hVl : V.length = gs.length := by have := h.o.1; omega
  have hoj : ∀ b, ho = some b → ¬ some b = H j := fun b e e' => (h.fresh j b hjn e'.symm).2 e
  have hgo : ho = some go := ((h.o.setAt (by omega)) 0 undef).1
  have hw1 : W1.heap.size ≥ w.heap.size := hO1.size
  have hne : ∀ b, h' = some b → b ≠ go := fun b e e' => by
    subst e'
    rcases hh with hh | ⟨g, hg, hge⟩
    · exact (h.fresh j b hjn (hh ▸ e)).2 hgo
    · rw [hg] at e; cases e; have := h.o.lt b hgo; omega
  have hset : Only (fun k => k = go) w' (w'.setCell ⟨go, off + j, none⟩ (.slice A' (L.length + 1) c')) := (Only.refl (fun k => k = go) w').setCell (p := ⟨go, off + j, none⟩) (fun _ => rfl) _
  have ho' := (((h.o.kept hO1 (fun _ _ h => h)).kept hO hoj).setAt (by omega) j (.slice A' (L.length + 1) c')).2
  have hkeep : ∀ k b, k < gs.length → k ≠ j → H k = some b → ¬ some b = H j ∧ b ≠ go := fun k b hk hkj e => ⟨fun e' => h.sep k j b hk hjn hkj e e'.symm, fun e' => (h.fresh k b hk e).2 (e' ▸ hgo)⟩
  refine ⟨by simpa using ho', h.ofresh, fun k M hk => ?_, fun k b hk e => ?_, fun k m b hk hm hkm e e' => ?_⟩
  · by_cases hkj : k = j
    · subst hkj
      rw [List.getElem?_set_self hjn] at hk
      obtain rfl : L ++ [x] = M := by simpa using hk
      refine ⟨A', c', by rw [List.getElem?_set_self (by omega)]; simp, ?_⟩
      rw [updH_same, show dat (L ++ [x]) = dat L ++ [.int .i64 (x : Int)] by rw [dat, dat, List.map_append]; rfl]
      simpa using hW.kept hset hne
    · rw [List.getElem?_set_ne (Ne.symm hkj)] at hk
      obtain ⟨A, c, e, hw⟩ := h.row k M hk
      have hkn := (List.getElem?_eq_some_iff.1 hk).1
      refine ⟨A, c, by rw [List.getElem?_set_ne (Ne.symm hkj)]; exact e, ?_⟩
      rw [updH_other _ hkj]
      exact ((hw.kept hO1 (fun _ _ h => h)).kept hO (fun b hb => (hkeep k b hkn hkj hb).1)).kept hset (fun b hb => (hkeep k b hkn hkj hb).2)
  · rw [List.length_set] at hk
    by_cases hkj : k = j
    · subst hkj
      rw [updH_same] at e
      refine ⟨?_, fun e' => hne b e (by rw [hgo] at e'; cases e'; rfl)⟩
      rcases hh with hh | ⟨g, hg, hge⟩
      · exact (h.fresh k b hk (hh ▸ e)).1
      · rw [hg] at e; cases e; omega
    · rw [updH_other _ hkj] at e
      exact h.fresh k b hk e
  · rw [List.length_set] at hk hm
    have key : ∀ k b, k < gs.length → k ≠ j → H k = some b → h' = some b → False := fun k b hk hkj e e' => by
      rcases hh with hh | ⟨g, hg, hge⟩
      · exact h.sep k j b hk hjn hkj e (hh ▸ e')
      · rw [hg] at e'; cases e'; have := h.lt hk e; omega
    by_cases hkj : k = j
    · subst hkj
      rw [updH_same] at e
      rw [updH_other _ (Ne.symm hkm)] at e'
      exact key m b hm (Ne.symm hkm) e' e
    · rw [updH_other _ hkj] at e
      by_cases hmj : m = j
      · subst hmj
        rw [updH_same] at e'
        exact key k b hk hkj e e'
      · rw [updH_other _ hmj] at e'
        exact h.sep k m b hk hm hkm e e'
end Bch
end Go.Proofs.YtlbinlhaejhobaaGreatDoor
/- chain: which group bears a task. -/
namespace Go.Proofs.YtlbinlhaejhobaaGreatDoor
namespace Bch
open Go Go.RowKit Go.Maps Go.Shelf
/-- The boxes that the closures look into. -/
structure Boxes (W : World) (c : ConfV) (ts : List TaskV) (qc qx x : Nat) : Prop where
  t : TasksAt W c.ta ts
  c : W.heap[qc]? = some (.cells c.cells.toArray 27 (0, 0))
  x : W.heap[qx]? = some (.cells [Value.int .i64 (x : Int)].toArray 3 (0, 0))
theorem Boxes.new {W W' : World} {c : ConfV} {ts : List TaskV} {qc qx x : Nat} (h : Boxes W c ts qc qx x) (ho : Only (fun _ => False) W W') : Boxes W' c ts qc qx x := ⟨h.t.new ho, ho.heap h.c (fun h => h), ho.heap h.x (fun h => h)⟩
theorem canZ_in {ts : List TaskV} {i k : Nat} (hi : i < ts.length) (hk : k < ts.length) : canZ ts (i : Int) (k : Int) = canB ts i k := by
  unfold canZ inZ
  rw [decide_eq_true (by omega), decide_eq_true (by omega)]
  rfl
/-- The first group that bears the task. -/
def FindEnd (ts : List TaskV) (x : Nat) (gs : List (List Nat)) (w : World) (e : Ending) (w' : World) : Prop :=
  Only (fun _ => False) w w' ∧ ((e = .returned (.int .i64 (-1)) ∧ ∀ (j : Nat) M, gs[j]? = some M → meetsB ts x M = true) ∨
    ∃ (j : Nat) (L : List Nat), e = .returned (.int .i64 (j : Int)) ∧ gs[j]? = some L ∧ meetsB ts x L = false ∧ ∀ (k : Nat) M, k < j → gs[k]? = some M → meetsB ts x M = true)
end Bch
end Go.Proofs.YtlbinlhaejhobaaGreatDoor
/- chain: the groups of tasks. -/
namespace Go.Proofs.YtlbinlhaejhobaaGreatDoor
namespace Bch
open Go Go.RowKit Go.Maps Go.Shelf
attribute [local go_sem] Oper.semAt_some
theorem info40 : (Tryz.prog.info? 24).map (fun i => (i.zero, i.size, i.bytes)) = some (some (Value.slice none 0 0), 1, 24) := by kernel_rfl
/-- Between two rounds: the groups so far, and the box of their row. -/
def GI (w4 : World) (base qb : Nat) (ts : List TaskV) (X : Nat → Prop) (pre : List Nat) (W : World) : Prop :=
  (∃ (p : Option Addr) (cap : Nat) (ho : Option Nat) (V : List Value) (H : Nat → Option Nat), W.heap[qb]? = some (.cells [Value.slice p (groupsOf ts pre).length cap].toArray 78 (0, 0)) ∧ GrpAt W base p cap ho V H (groupsOf ts pre) ∧
    (∀ b, ho = some b → ¬ X b) ∧ ∀ j b, j < (groupsOf ts pre).length → H j = some b → ¬ X b) ∧ ¬ X qb ∧ (∀ k, X k → w4.heap.size ≤ k ∧ k < W.heap.size) ∧ Only (fun k => k = qb) w4 W ∧ base ≤ W.heap.size
theorem GI.steady {w4 : World} {base qb : Nat} {ts : List TaskV} : Steady (GI w4 base qb ts) := by
  refine ⟨fun {X pre A C} h ho => ?_, fun {X X' pre A} hX h => ?_⟩
  · obtain ⟨⟨p, cap, go, V, H, g1, g2, g3, g4⟩, h2, h3, h4, h5⟩ := h
    have hl := row_lt g1
    have hs := ho.size
    refine ⟨⟨p, cap, go, V, H, ho.heap g1 h2, g2.kept ho g3 g4, fun b hb hx => ?_, fun j b hj hb hx => ?_⟩, fun hx => ?_, fun k hk => ?_, h4.trans ho (fun x hx h => by have := (h3 x h).1; omega), by omega⟩
    · rcases hx with hx | hx
      · exact g3 b hb hx
      · have := g2.o.lt b hb; omega
    · rcases hx with hx | hx
      · exact g4 j b hj hb hx
      · have := g2.lt hj hb; omega
    · rcases hx with hx | hx
      · exact h2 hx
      · omega
    · have := h4.size
      rcases hk with hk | hk
      · have := h3 k hk; omega
      · omega
  · obtain ⟨⟨p, cap, go, V, H, g1, g2, g3, g4⟩, h2, h3, h4, h5⟩ := h
    exact ⟨⟨p, cap, go, V, H, g1, g2, fun b hb hx => g3 b hb (hX _ hx), fun j b hj hb hx => g4 j b hj hb (hX _ hx)⟩, fun hx => h2 (hX _ hx), fun k hk => h3 k (hX k hk), h4, h5⟩
def grpL (ts : List TaskV) : List (List Nat) := groupsOf ts (ordL ts)
theorem groups_mem {ts : List TaskV} : ∀ (l : List Nat) (gs : List (List Nat)), (∀ M ∈ l.foldl (fun gs x => putG ts x gs) gs, ∀ i ∈ M, i ∈ l ∨ ∃ N ∈ gs, i ∈ N)
  | [], gs, M, hM, i, hi => .inr ⟨M, hM, hi⟩
  | x :: l, gs, M, hM, i, hi => by
    rcases groups_mem l (putG ts x gs) M hM i hi with h | ⟨N, hN, hi'⟩
    · exact .inl (by simp [h])
    · rcases putG_mem hN with rfl | h1 | ⟨L, h1, rfl⟩
      · simp at hi'
        exact .inl (by simp [hi'])
      · exact .inr ⟨N, h1, hi'⟩
      · rcases List.mem_append.1 hi' with h2 | h2
        · exact .inr ⟨L, h1, h2⟩
        · simp at h2
          exact .inl (by simp [h2])
/-- What the groups are bounded by. -/
theorem groups_bd {ts : List TaskV} {pre : List Nat} (h : pre <+: ordL ts) : (groupsOf ts pre).length ≤ 12 ∧ ∀ M ∈ groupsOf ts pre, M.length ≤ 12 ∧ ∀ i ∈ M, i < ts.length := by
  have h1 := groups_len (ts := ts) pre []
  have h2 := groups_row (ts := ts) pre 0 [] (by simp)
  have h3 := h.length_le
  have h4 := ordL_len ts
  refine ⟨by unfold groupsOf; simp only [List.length_nil] at h1; omega, fun M hM => ⟨by have := h2 M hM; omega, fun i hi => ?_⟩⟩
  rcases groups_mem pre [] M hM i hi with h5 | ⟨N, hN, _⟩
  · exact (ordL_lt (h.subset h5)).1
  · simp at hN
def GrpEnd (w : World) (gs : List (List Nat)) (e : Ending) (w' : World) : Prop :=
  ∃ (p : Option Addr) (cap : Nat) (ho : Option Nat) (V : List Value) (H : Nat → Option Nat), e = .returned (.slice p gs.length cap) ∧ GrpAt w' w.heap.size p cap ho V H gs ∧ Only (fun _ => False) w w'
theorem GrpAt.base {w : World} {base base' : Nat} {p : Option Addr} {cap : Nat} {ho : Option Nat} {V : List Value} {H : Nat → Option Nat} {gs : List (List Nat)} (h : GrpAt w base p cap ho V H gs) (hb : base' ≤ base) : GrpAt w base' p cap ho V H gs :=
  ⟨h.o, fun b e => by have := h.ofresh b e; omega, h.row, fun j b hj e => ⟨by have := (h.fresh j b hj e).1; omega, (h.fresh j b hj e).2⟩, h.sep⟩
theorem GI.close {W4 W7 W' : World} {base q : Nat} {ts : List TaskV} {X RD T : Nat → Prop} {l : List Nat} {p : Option Addr} {cap : Nat} {ho : Option Nat} {V : List Value} {H : Nat → Option Nat} {gs : List (List Nat)} (hgs : gs = groupsOf ts l) (h5 : ¬ X (q + 1)) (h6 : ∀ k, X k → W4.heap.size ≤ k ∧ k < W7.heap.size) (h7 : Only (fun k => k = q + 1) W4 W7) (h8 : base ≤ W7.heap.size)
    (hRD : ∀ k, RD k → k < base ∧ q + 2 ≤ k) (hW4 : W4.heap.size ≤ base) (hO : Only T W7 W') (hT : ∀ k, T k → k = q + 1 ∨ (base ≤ k ∧ ¬ X k)) (hb : W'.heap[q + 1]? = some (.cells [Value.slice p gs.length cap].toArray 78 (0, 0)))
    (hG : GrpAt W' base p cap ho V H gs) (hx1 : ∀ b, ho = some b → ¬ X b) (hx2 : ∀ j b, j < gs.length → H j = some b → ¬ X b) : Only (fun k => ¬ RD k ∧ ¬ X k) W7 W' ∧ GI W4 base (q + 1) ts X l W' := by
  subst hgs
  have hs := hO.size
  refine ⟨hO.mono (fun k _ hk => ?_), ⟨p, cap, ho, V, H, hb, hG, hx1, hx2⟩, h5, fun k hk => ⟨(h6 k hk).1, by have := (h6 k hk).2; omega⟩, h7.trans hO (fun k hk ht => ?_), by omega⟩
  · rcases hT k hk with rfl | ⟨h1, h2⟩
    · exact ⟨fun hr => by have := (hRD _ hr).2; omega, h5⟩
    · exact ⟨fun hr => by have := (hRD _ hr).1; omega, h2⟩
  · rcases hT k ht with h1 | ⟨h1, _⟩
    · exact h1
    · omega
end Bch
end Go.Proofs.YtlbinlhaejhobaaGreatDoor
/- Layer 26's fixed calls. -/
namespace Go.Proofs.YtlbinlhaejhobaaGreatDoor
namespace Bch
open Go Go.RowKit Go.Maps Go.Shelf
def n0 : Sl := ⟨none, 0, 0⟩
def fT (th : Int) : TaskV := ⟨1, th, 0, 0, 5, 0, n0⟩
def fU : TaskV := ⟨2, 2, 0, 0, 7, 0, n0⟩
def fts (th : Int) : List TaskV := [fT th, fU]
theorem foll_det {L : Chn.Lks} : ∀ {c c' : List Nat} {f : Option Nat}, Foll L f c → Foll L f c' → c = c'
  | [], [], none, _, _ => rfl
  | [], x :: c', none, _, h => by simp [Foll] at h
  | x :: c, c', none, h, _ => by simp [Foll] at h
  | [], c', some t, h, _ => h.elim
  | x :: c, [], some t, _, h => h.elim
  | x :: c, y :: c', some t, h, k => by
    obtain ⟨rfl, d, f, h1, h2⟩ := h
    obtain ⟨rfl, d', f', k1, k2⟩ := k
    rw [h1] at k1
    cases k1
    rw [foll_det h2 k2]
theorem fd1 : deepL (fts 1) = [0, 1] := by
  have h := (deepL_ok (fts 1)).1
  rw [show firstO (fts 1) = some 0 by decide] at h
  exact foll_det h ⟨rfl, 12, some 1, by decide, rfl, 7, none, by decide, rfl⟩
theorem fd2 : deepL (fts 2) = [1] := by
  have h := (deepL_ok (fts 2)).1
  rw [show firstO (fts 2) = some 1 by decide] at h
  exact foll_det h ⟨rfl, 7, none, by decide, rfl⟩
theorem fb1 : bndZ (fts 1) = 12 := by unfold bndZ; rw [fd1]; decide
theorem fb2 : bndZ (fts 2) = 7 := by unfold bndZ; rw [fd2]; decide
theorem fg1 : grpL (fts 1) = [[1], [0]] := by decide
theorem fg2 : grpL (fts 2) = [[1, 0]] := by decide
def fC (th : Int) : List Value := [.int .i64 1, .int .i64 th, .int .i64 0, .int .i64 0, .int .i64 5, .int .i64 0, .slice none 0 0, .int .i64 2, .int .i64 2, .int .i64 0, .int .i64 0, .int .i64 7, .int .i64 0, .slice none 0 0]
def fc (X : Nat) : ConfV := ⟨0, 0, 0, 0, n0, 0, n0, n0, ⟨some ⟨X, 0, none⟩, 2, 2⟩, n0⟩
theorem fcn (X : Nat) : (fc X).ta.n ≤ 9223372036854775807 := show 2 ≤ 9223372036854775807 by decide
theorem fTasks {W : World} {X : Nat} {th : Int} (h : W.heap[X]? = some (.cells (fC th).toArray 49 (0, 0))) : TasksAt W (fc X).ta (fts th) := by
  refine ⟨rfl, Nat.le_refl _, fun k t ht => ?_⟩
  match k, ht with
  | 0, ht =>
    cases ht
    exact ⟨X, 0, rfl, row_lt h, row_cell h (i := 0) rfl, row_cell h (i := 1) rfl, row_cell h (i := 2) rfl, row_cell h (i := 3) rfl, row_cell h (i := 4) rfl, row_cell h (i := 5) rfl, row_cell h (i := 6) rfl⟩
  | 1, ht =>
    cases ht
    exact ⟨X, 0, rfl, row_lt h, row_cell h (i := 7) rfl, row_cell h (i := 8) rfl, row_cell h (i := 9) rfl, row_cell h (i := 10) rfl, row_cell h (i := 11) rfl, row_cell h (i := 12) rfl, row_cell h (i := 13) rfl⟩
  | k + 2, ht => simp [fts] at ht
def CB (W : World) (b X : Nat) : Prop :=
  W.cell? ⟨b, 0, none⟩ = some (.int .i64 0) ∧ W.cell? ⟨b, 1, none⟩ = some (.int .i64 0) ∧ W.cell? ⟨b, 2, none⟩ = some (.int .i64 0) ∧ W.cell? ⟨b, 3, none⟩ = some (.int .i64 0) ∧ W.cell? ⟨b, 4, none⟩ = some (.slice none 0 0) ∧ W.cell? ⟨b, 5, none⟩ = some (.int .i64 0) ∧
  W.cell? ⟨b, 6, none⟩ = some (.slice none 0 0) ∧ W.cell? ⟨b, 7, none⟩ = some (.slice none 0 0) ∧ W.cell? ⟨b, 8, none⟩ = some (.slice (some ⟨X, 0, none⟩) 2 2) ∧ W.cell? ⟨b, 9, none⟩ = some (.slice none 0 0) ∧ b < W.heap.size
theorem cb_of {W : World} {b X : Nat} (h : W.heap[b]? = some (.cells (fc X).cells.toArray 27 (0, 0))) : CB W b X :=
  ⟨row_cell h (i := 0) rfl, row_cell h (i := 1) rfl, row_cell h (i := 2) rfl, row_cell h (i := 3) rfl, row_cell h (i := 4) rfl, row_cell h (i := 5) rfl, row_cell h (i := 6) rfl, row_cell h (i := 7) rfl, row_cell h (i := 8) rfl, row_cell h (i := 9) rfl, row_lt h⟩
theorem cell_at {w : World} {e : TypeId} {A : Option Addr} {n cap : Nat} {h : Option Nat} {xs : List Value} (hW : Win w e 1 (.slice A n cap) h n xs) {i : Nat} {u : Value} (hu : xs[i]? = some u) : ∃ g off, A = some ⟨g, off, none⟩ ∧ w.cell? ⟨g, off + i, none⟩ = some u ∧ g < w.heap.size := by
  have hi := (List.getElem?_eq_some_iff.1 hu).1
  obtain ⟨g, off, cc, _, hv, _, _, hl, hc, _⟩ := hW.at_ (by have := hW.1; omega)
  simp only [Value.slice.injEq, true_and] at hv
  exact ⟨g, off, hv.1, hc i u hu, hl⟩
end Bch
end Go.Proofs.YtlbinlhaejhobaaGreatDoor
