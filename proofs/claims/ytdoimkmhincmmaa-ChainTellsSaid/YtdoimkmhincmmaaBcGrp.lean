/- chain: groups of tasks: rows of numbers behind a row. -/
import Derived.Test.YtdoimkmhincmmaaBcBnd
namespace Go.Proofs.Ytdoimkmhincmmaa
namespace Bch
open Go Go.RowKit Go.Maps Go.Shelf
/-- Whether one of two tasks can displace the other. -/
def clash (ts : List TaskV) (i k : Nat) : Bool := canB ts i k || canB ts k i
def meetsB (ts : List TaskV) (x : Nat) (L : List Nat) : Bool := L.any fun k => clash ts k x
/-- The first group that bears the task takes it. -/
def putG (ts : List TaskV) (x : Nat) : List (List Nat) → List (List Nat)
  | [] => [[x]]
  | L :: gs => if meetsB ts x L = true then L :: putG ts x gs else (L ++ [x]) :: gs
def groupsOf (ts : List TaskV) (l : List Nat) : List (List Nat) := l.foldl (fun gs x => putG ts x gs) []
theorem groupsOf_snoc (ts : List TaskV) (l : List Nat) (x : Nat) : groupsOf ts (l ++ [x]) = putG ts x (groupsOf ts l) := by
  unfold groupsOf
  rw [List.foldl_append]
  rfl
theorem putG_all {ts : List TaskV} {x : Nat} : ∀ {gs : List (List Nat)}, (∀ (j : Nat) L, gs[j]? = some L → meetsB ts x L = true) → putG ts x gs = gs ++ [[x]]
  | [], _ => rfl
  | L :: gs, h => by
    unfold putG
    rw [if_pos (h 0 L rfl), putG_all (gs := gs) (fun j M hM => h (j + 1) M (by simpa using hM))]
    rfl
theorem putG_at {ts : List TaskV} {x : Nat} : ∀ {gs : List (List Nat)} {j : Nat} {L : List Nat}, gs[j]? = some L → meetsB ts x L = false → (∀ (k : Nat) M, k < j → gs[k]? = some M → meetsB ts x M = true) → putG ts x gs = gs.set j (L ++ [x])
  | [], j, L, h, _, _ => by simp at h
  | M :: gs, 0, L, h, hL, _ => by
    obtain rfl : M = L := by simpa using h
    unfold putG
    rw [if_neg (by rw [hL]; simp)]
    rfl
  | M :: gs, j + 1, L, h, hL, hk => by
    unfold putG
    rw [if_pos (hk 0 M (by omega) rfl), putG_at (gs := gs) (j := j) (L := L) (by simpa using h) hL (fun k N hlt hN => hk (k + 1) N (by omega) (by simpa using hN))]
    rfl
theorem putG_len {ts : List TaskV} {x : Nat} : ∀ {gs : List (List Nat)}, (putG ts x gs).length ≤ gs.length + 1
  | [] => by simp [putG]
  | L :: gs => by
    unfold putG
    split
    · have := putG_len (ts := ts) (x := x) (gs := gs); simp; omega
    · simp
theorem groups_len {ts : List TaskV} : ∀ (l : List Nat) (gs : List (List Nat)), (l.foldl (fun gs x => putG ts x gs) gs).length ≤ gs.length + l.length
  | [], gs => by simp
  | x :: l, gs => by
    have h1 := groups_len (ts := ts) l (putG ts x gs)
    have h2 := putG_len (ts := ts) (x := x) (gs := gs)
    simp only [List.foldl_cons, List.length_cons]
    omega
/-- All of the groups' numbers are of the row. -/
theorem putG_mem {ts : List TaskV} {x : Nat} : ∀ {gs : List (List Nat)} {M : List Nat}, M ∈ putG ts x gs → M = [x] ∨ M ∈ gs ∨ ∃ L ∈ gs, M = L ++ [x]
  | [], M, h => by
    simp [putG] at h
    exact .inl h
  | L :: gs, M, h => by
    unfold putG at h
    split at h
    · rcases List.mem_cons.1 h with rfl | h
      · exact .inr (.inl (by simp))
      · rcases putG_mem h with h1 | h1 | ⟨N, h1, h2⟩
        · exact .inl h1
        · exact .inr (.inl (by simp [h1]))
        · exact .inr (.inr ⟨N, by simp [h1], h2⟩)
    · rcases List.mem_cons.1 h with rfl | h
      · exact .inr (.inr ⟨L, by simp, rfl⟩)
      · exact .inr (.inl (by simp [h]))
theorem groups_row {ts : List TaskV} : ∀ (l : List Nat) (m : Nat) (gs : List (List Nat)), (∀ M ∈ gs, M.length ≤ m) → ∀ M ∈ l.foldl (fun gs x => putG ts x gs) gs, M.length ≤ m + l.length
  | [], m, gs, h, M, hM => by simpa using h M hM
  | x :: l, m, gs, h, M, hM => by
    have h1 := groups_row (ts := ts) l (m + 1) (putG ts x gs) (fun N hN => by
      rcases putG_mem hN with rfl | h1 | ⟨L, h1, rfl⟩
      · simp
      · have := h N h1; omega
      · have := h L h1; simp; omega) M hM
    simp only [List.length_cons]
    omega
/-- Rows of numbers behind a row, all blocks apart. -/
structure GrpAt (w : World) (base : Nat) (p : Option Addr) (cap : Nat) (ho : Option Nat) (V : List Value) (H : Nat → Option Nat) (gs : List (List Nat)) : Prop where
  o : Win w 24 1 (.slice p gs.length cap) ho gs.length V
  ofresh : ∀ b, ho = some b → base ≤ b
  row : ∀ (j : Nat) L, gs[j]? = some L → ∃ A c, V[j]? = some (.slice A L.length c) ∧ Win w 3 1 (.slice A L.length c) (H j) L.length (dat L)
  fresh : ∀ j b, j < gs.length → H j = some b → base ≤ b ∧ ho ≠ some b
  sep : ∀ j k b, j < gs.length → k < gs.length → j ≠ k → H j = some b → H k ≠ some b
theorem GrpAt.nil (w : World) (base : Nat) : GrpAt w base none 0 none [] (fun _ => none) [] :=
  ⟨Win.nil _ _ _, fun b h => by (cases h), fun j L h => by simp at h, fun j b h => by simp at h, fun j k b h => by simp at h⟩
theorem GrpAt.kept {S : Nat → Prop} {w w' : World} {base : Nat} {p : Option Addr} {cap : Nat} {ho : Option Nat} {V : List Value} {H : Nat → Option Nat} {gs : List (List Nat)} (h : GrpAt w base p cap ho V H gs) (hO : Only S w w') (h1 : ∀ b, ho = some b → ¬ S b) (h2 : ∀ j b, j < gs.length → H j = some b → ¬ S b) :
    GrpAt w' base p cap ho V H gs :=
  ⟨h.o.kept hO h1, h.ofresh, fun j L hj => by
    obtain ⟨A, c, e, hW⟩ := h.row j L hj
    exact ⟨A, c, e, hW.kept hO (fun b hb => h2 j b (List.getElem?_eq_some_iff.1 hj).1 hb)⟩, h.fresh, h.sep⟩
theorem GrpAt.new {w w' : World} {base : Nat} {p : Option Addr} {cap : Nat} {ho : Option Nat} {V : List Value} {H : Nat → Option Nat} {gs : List (List Nat)} (h : GrpAt w base p cap ho V H gs) (hO : Only (fun _ => False) w w') : GrpAt w' base p cap ho V H gs :=
  h.kept hO (fun _ _ h => h) (fun _ _ _ _ h => h)
theorem GrpAt.lt {w : World} {base : Nat} {p : Option Addr} {cap : Nat} {ho : Option Nat} {V : List Value} {H : Nat → Option Nat} {gs : List (List Nat)} (h : GrpAt w base p cap ho V H gs) {j b : Nat} (hj : j < gs.length) (hb : H j = some b) : b < w.heap.size := by
  obtain ⟨A, c, e, hW⟩ := h.row j _ (List.getElem?_eq_getElem hj)
  exact hW.lt b hb
/-- An element of a row set. -/
theorem _root_.Go.Proofs.Ytdoimkmhincmmaa.Win.setAt {w : World} {e : TypeId} {g off n cap : Nat} {h : Option Nat} {xs : List Value} (hW : Win w e 1 (.slice (some ⟨g, off, none⟩) n cap) h n xs) (hn : 0 < n) (i : Nat) (u : Value) :
    h = some g ∧ Win (w.setCell ⟨g, off + i, none⟩ u) e 1 (.slice (some ⟨g, off, none⟩) n cap) h n (xs.set i u) := by
  obtain ⟨hl, p, cap', hv, h1, h2, h3⟩ := hW
  simp only [Value.slice.injEq, true_and] at hv
  obtain ⟨rfl, rfl⟩ := hv
  rcases h3 with h3 | ⟨g', off', L, hg, hp, hh, h4, h5⟩
  · omega
  · simp only [Option.some.injEq, Addr.mk.injEq, and_true] at hp
    obtain ⟨rfl, rfl⟩ := hp
    refine ⟨hg, by simpa using hl, _, cap, rfl, h1, h2, .inr ⟨g, off, L.set (off + i) u, hg, rfl, row_set hh _ _, by simpa using h4, ?_⟩⟩
    rw [← h5, List.drop_set, if_neg (by omega), show off + i - off = i by omega, List.take_set]
def updH (H : Nat → Option Nat) (j : Nat) (h : Option Nat) : Nat → Option Nat := fun k => if k = j then h else H k
theorem updH_same (H : Nat → Option Nat) (j : Nat) (h : Option Nat) : updH H j h j = h := if_pos rfl
theorem updH_other {H : Nat → Option Nat} {j k : Nat} (h : Option Nat) (hk : k ≠ j) : updH H j h k = H k := if_neg hk
/-- A new group of one. -/
theorem GrpAt.add {w W2 w' : World} {base : Nat} {p p' : Option Addr} {cap cap' : Nat} {ho h' : Option Nat} {V : List Value} {H : Nat → Option Nat} {gs : List (List Nat)} {X x : Nat} (h : GrpAt w base p cap ho V H gs) (hb : base ≤ w.heap.size)
    (hO2 : Only (fun _ => False) w W2) (hX : W2.heap[X]? = some (.cells #[.int .i64 (x : Int)] 3 (0, 0))) (hXn : w.heap.size ≤ X) (hO : Only (fun k => some k = ho) W2 w') (hh : h' = ho ∨ ∃ g, h' = some g ∧ W2.heap.size ≤ g)
    (hW : Win w' 24 1 (.slice p' (gs.length + 1) cap') h' (gs.length + 1) (V ++ [.slice (some ⟨X, 0, none⟩) 1 1])) : GrpAt w' base p' cap' h' (V ++ [.slice (some ⟨X, 0, none⟩) 1 1]) (updH H gs.length (some X)) (gs ++ [[x]]) := by
  have hXl := row_lt hX
  have hoX : ho ≠ some X := fun e => by have := h.o.lt X e; omega
  have hVl : V.length = gs.length := by have := h.o.1; omega
  have hhX : ∀ b, h' = some b → b = X → False := fun b e1 e2 => by
    subst e2
    rcases hh with hh | ⟨g, hg, hge⟩
    · exact hoX (hh ▸ e1)
    · rw [hg] at e1; cases e1; omega
  have hge : W2.heap.size ≥ w.heap.size := hO2.size
  have hfr : ∀ b, h' = some b → base ≤ b := fun b e => by
    rcases hh with hh | ⟨g, hg, hge'⟩
    · exact h.ofresh b (hh ▸ e)
    · rw [hg] at e; cases e; omega
  have hne : ∀ j b, j < gs.length → H j = some b → h' ≠ some b := fun j b hj e e' => by
    rcases hh with hh | ⟨g, hg, hge'⟩
    · exact (h.fresh j b hj e).2 (hh ▸ e')
    · rw [hg] at e'; cases e'; have := h.lt hj e; omega
  refine ⟨by simpa using hW, hfr, fun j L hj => ?_, fun j b hj e => ?_, fun j k b hj hk hjk e e' => ?_⟩
  · by_cases hjn : j < gs.length
    · rw [List.getElem?_append_left hjn] at hj
      obtain ⟨A, c, e, hw⟩ := h.row j L hj
      refine ⟨A, c, by rw [List.getElem?_append_left (by omega)]; exact e, ?_⟩
      rw [updH_other _ (by omega)]
      exact (hw.kept hO2 (fun _ _ h => h)).kept hO (fun b hb he => (h.fresh j b hjn hb).2 he.symm)
    · have hjl : j = gs.length := by have := (List.getElem?_eq_some_iff.1 hj).1; simp at this; omega
      subst hjl
      obtain rfl : L = [x] := by simpa using hj.symm
      refine ⟨some ⟨X, 0, none⟩, 1, by rw [← hVl]; simp, ?_⟩
      rw [updH_same]
      exact Win.of_row (L := [_]) (hO.heap hX (fun e => hoX e.symm)) rfl (show 1 ≤ maxLen by decide)
  · by_cases hjn : j < gs.length
    · rw [updH_other _ (by omega)] at e
      exact ⟨(h.fresh j b hjn e).1, hne j b hjn e⟩
    · obtain rfl : j = gs.length := by simp at hj; omega
      rw [updH_same] at e
      cases e
      exact ⟨by omega, fun e' => hhX X e' rfl⟩
  · by_cases hjn : j < gs.length
    · rw [updH_other _ (by omega)] at e
      by_cases hkn : k < gs.length
      · rw [updH_other _ (by omega)] at e'
        exact h.sep j k b hjn hkn hjk e e'
      · obtain rfl : k = gs.length := by simp at hk; omega
        rw [updH_same] at e'
        cases e'
        have := h.lt hjn e
        omega
    · obtain rfl : j = gs.length := by simp at hj; omega
      rw [updH_same] at e
      cases e
      have hkn : k < gs.length := by simp at hk; omega
      rw [updH_other _ (by omega)] at e'
      have := h.lt hkn e'
      omega
/-- A group that takes one more. -/
theorem GrpAt.grow {w W1 w' : World} {base : Nat} {go off cap : Nat} {ho h' : Option Nat} {V : List Value} {H : Nat → Option Nat} {gs : List (List Nat)} {j x : Nat} {L : List Nat} {A' : Option Addr} {c' : Nat} (h : GrpAt w base (some ⟨go, off, none⟩) cap ho V H gs) (hb : base ≤ w.heap.size) (hj : gs[j]? = some L)
    (hO1 : Only (fun _ => False) w W1) (hO : Only (fun k => some k = H j) W1 w') (hh : h' = H j ∨ ∃ g, h' = some g ∧ W1.heap.size ≤ g)
    (hW : Win w' 3 1 (.slice A' (L.length + 1) c') h' (L.length + 1) (dat L ++ [.int .i64 (x : Int)])) :
    GrpAt (w'.setCell ⟨go, off + j, none⟩ (.slice A' (L.length + 1) c')) base (some ⟨go, off, none⟩) cap ho (V.set j (.slice A' (L.length + 1) c')) (updH H j h') (gs.set j (L ++ [x])) := by
  have hjn := (List.getElem?_eq_some_iff.1 hj).1
  have hVl : V.length = gs.length := by have := h.o.1; omega
  have hoj : ∀ b, ho = some b → ¬ some b = H j := fun b e e' => (h.fresh j b hjn e'.symm).2 e
  have hgo : ho = some go := ((h.o.setAt (by omega)) 0 undef).1
  have hw1 : W1.heap.size ≥ w.heap.size := hO1.size
  have hne : ∀ b, h' = some b → b ≠ go := fun b e e' => by
    subst e'
    rcases hh with hh | ⟨g, hg, hge⟩
    · exact (h.fresh j b hjn (hh ▸ e)).2 hgo
    · rw [hg] at e; cases e; have := h.o.lt b hgo; omega
  have hset : Only (fun k => k = go) w' (w'.setCell ⟨go, off + j, none⟩ (.slice A' (L.length + 1) c')) := (Only.refl (fun k => k = go) w').setCell (p := ⟨go, off + j, none⟩) (fun _ => rfl) _
  have ho' := (((h.o.kept hO1 (fun _ _ h => h)).kept hO hoj).setAt (by omega) j (.slice A' (L.length + 1) c')).2
  have hkeep : ∀ k b, k < gs.length → k ≠ j → H k = some b → ¬ some b = H j ∧ b ≠ go := fun k b hk hkj e => ⟨fun e' => h.sep k j b hk hjn hkj e e'.symm, fun e' => (h.fresh k b hk e).2 (e' ▸ hgo)⟩
  refine ⟨by simpa using ho', h.ofresh, fun k M hk => ?_, fun k b hk e => ?_, fun k m b hk hm hkm e e' => ?_⟩
  · by_cases hkj : k = j
    · subst hkj
      rw [List.getElem?_set_self hjn] at hk
      obtain rfl : L ++ [x] = M := by simpa using hk
      refine ⟨A', c', by rw [List.getElem?_set_self (by omega)]; simp, ?_⟩
      rw [updH_same, show dat (L ++ [x]) = dat L ++ [.int .i64 (x : Int)] by rw [dat, dat, List.map_append]; rfl]
      simpa using hW.kept hset hne
    · rw [List.getElem?_set_ne (Ne.symm hkj)] at hk
      obtain ⟨A, c, e, hw⟩ := h.row k M hk
      have hkn := (List.getElem?_eq_some_iff.1 hk).1
      refine ⟨A, c, by rw [List.getElem?_set_ne (Ne.symm hkj)]; exact e, ?_⟩
      rw [updH_other _ hkj]
      exact ((hw.kept hO1 (fun _ _ h => h)).kept hO (fun b hb => (hkeep k b hkn hkj hb).1)).kept hset (fun b hb => (hkeep k b hkn hkj hb).2)
  · rw [List.length_set] at hk
    by_cases hkj : k = j
    · subst hkj
      rw [updH_same] at e
      refine ⟨?_, fun e' => hne b e (by rw [hgo] at e'; cases e'; rfl)⟩
      rcases hh with hh | ⟨g, hg, hge⟩
      · exact (h.fresh k b hk (hh ▸ e)).1
      · rw [hg] at e; cases e; omega
    · rw [updH_other _ hkj] at e
      exact h.fresh k b hk e
  · rw [List.length_set] at hk hm
    have key : ∀ k b, k < gs.length → k ≠ j → H k = some b → h' = some b → False := fun k b hk hkj e e' => by
      rcases hh with hh | ⟨g, hg, hge⟩
      · exact h.sep k j b hk hjn hkj e (hh ▸ e')
      · rw [hg] at e'; cases e'; have := h.lt hk e; omega
    by_cases hkj : k = j
    · subst hkj
      rw [updH_same] at e
      rw [updH_other _ (Ne.symm hkm)] at e'
      exact key m b hm (Ne.symm hkm) e' e
    · rw [updH_other _ hkj] at e
      by_cases hmj : m = j
      · subst hmj
        rw [updH_same] at e'
        exact key k b hk hkj e e'
      · rw [updH_other _ hmj] at e'
        exact h.sep k m b hk hm hkm e e'
end Bch
end Go.Proofs.Ytdoimkmhincmmaa
