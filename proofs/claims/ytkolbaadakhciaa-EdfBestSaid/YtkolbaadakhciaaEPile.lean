/- edf's ready works: what their object holds; Len, Less, Swap, Pop, Push. -/
import Derived.Test.YtkolbaadakhciaaEPure
import Derived.Test.YtkolbaadakhciaaRows
import Derived.Test.YtkolbaadakhciaaWin
import Derived.Test.YtkolbaadakhciaaWd
import Derived.Test.YtkolbaadakhciaaTail
import Derived.Test.YtkolbaadakhciaaRowed
import Derived.StillTailTactics
import Derived.Deep.QuietTactic
import Derived.BigQuiet
import Derived.BigRegion
import Derived.ProofKit
import Derived.Outline
import Derived.RegionTactic
import Derived.Deep.RegionLaw
import Derived.WalkLawsBesides
import Derived.WalkSpells
import Derived.WalkSmall
import Derived.OwnWalk
import Derived.Deep.DrawnRows
import Derived.LoopTactic
import Derived.IntWalk
import Derived.Deep.Cut
import Derived.Deep.CutRange
import Derived.Deep.CutBlock
import Derived.Deep.RegionHeld3
namespace Go.Proofs.Ytkolbaadakhciaa
namespace Edf
open Go Go.RowKit

def Wk.cells (x : Wk) : List Value := [.int .i64 (x.r : Int), .int .i64 (x.c : Int), .int .i64 (x.d : Int)]
def Wk.val (x : Wk) : Value := .agg #[.int .i64 (x.r : Int), .int .i64 (x.c : Int), .int .i64 (x.d : Int)]
def wkCells (l : List Wk) : List Value := l.flatMap Wk.cells
theorem wkCells_length (l : List Wk) : (wkCells l).length = l.length * 3 := by
  induction l with
  | nil => rfl
  | cons x l ih => simp only [wkCells, List.flatMap_cons, List.length_append, List.length_cons] at ih ⊢; rw [ih]; simp [Wk.cells]; omega
theorem wkCells_at (l : List Wk) (i : Nat) (x : Wk) (h : l[i]? = some x) (j : Nat) (hj : j < 3) : (wkCells l)[i * 3 + j]? = x.cells[j]? := by
  induction l generalizing i with
  | nil => cases h
  | cons y l ih =>
    cases i with
    | zero =>
      cases h
      simp only [wkCells, List.flatMap_cons]
      rw [List.getElem?_append_left (by simp [Wk.cells]; omega)]
      simp
    | succ i =>
      simp only [wkCells, List.flatMap_cons]
      rw [List.getElem?_append_right (by simp [Wk.cells]; omega)]
      have := ih i (by simpa using h)
      rw [← this]
      congr 1
      simp [Wk.cells]
      omega
theorem wk_row {w : World} {b : Nat} {l : List Wk} (h : w.heap[b]? = some (.cells (wkCells l).toArray 53 (0, 0))) {i : Nat} {x : Wk} (hx : l[i]? = some x) :
    w.cell? ⟨b, i * 3, none⟩ = some (.int .i64 (x.r : Int)) ∧ w.cell? ⟨b, i * 3 + 1, none⟩ = some (.int .i64 (x.c : Int)) ∧ w.cell? ⟨b, i * 3 + 2, none⟩ = some (.int .i64 (x.d : Int)) :=
  ⟨row_cell h ((wkCells_at l i x hx 0 (by omega)).trans rfl), row_cell h ((wkCells_at l i x hx 1 (by omega)).trans rfl), row_cell h ((wkCells_at l i x hx 2 (by omega)).trans rfl)⟩

/-- A place in the heap and when its work is due. -/
structure Ev where
  t : Int
structure En where
  e : Ev
  n : Nat
/-- The works: their block and what they are. -/
structure Ws where
  b : Nat
  l : List Wk
def plc (l : List En) : List Value := l.map fun x => .int .i64 (x.n : Int)
theorem plc_length (l : List En) : (plc l).length = l.length := by simp [plc]
theorem plc_at {l : List En} {i : Nat} {x : En} (h : l[i]? = some x) : (plc l)[i]? = some (.int .i64 (x.n : Int)) := by
  unfold plc
  rw [List.getElem?_map, h]
  rfl
theorem plc_set (l : List En) (i : Nat) (x : En) : plc (l.set i x) = (plc l).set i (.int .i64 (x.n : Int)) := by simp [plc, List.map_set]
theorem plc_append (a b : List En) : plc (a ++ b) = plc a ++ plc b := by simp [plc]

def Fit (T : Ws) (es : List En) : Prop := ∀ x ∈ es, ∃ y, T.l[x.n]? = some y ∧ (y.d : Int) = x.e.t
/-- The object at r: its works T, its places in the block o. -/
def RAt (w : World) (r : Nat) (o : Option Nat) (T : Ws) (es : List En) : Prop :=
  ∃ v, w.heap[r]? = some (.cells [.slice (some ⟨T.b, 0, none⟩) T.l.length T.l.length, v].toArray 79 (0, 0)) ∧ Win w 3 1 v o es.length (plc es) ∧ (∀ k, o = some k → k ≠ r ∧ k ≠ T.b) ∧ w.heap[T.b]? = some (.cells (wkCells T.l).toArray 53 (0, 0)) ∧ T.b ≠ r ∧ Fit T es
def fp (r : Nat) (o : Option Nat) (k : Nat) : Prop := k = r ∨ o = some k
def fq (r : Nat) (o : Option Nat) (b : Nat) (k : Nat) : Prop := k = r ∨ o = some k ∨ k = b
theorem RAt.lt {w : World} {r : Nat} {T : Ws} {o : Option Nat} {es : List En} (h : RAt w r o T es) : ∀ k, fq r o T.b k → k < w.heap.size := by
  obtain ⟨v, h1, h2, h3, h4, h5, h6⟩ := h
  rintro k (rfl | hk | rfl)
  · exact row_lt h1
  · exact h2.lt k hk
  · exact row_lt h4
theorem RAt.kept {S : Nat → Prop} {w w' : World} {r : Nat} {T : Ws} {o : Option Nat} {es : List En} (h : RAt w r o T es) (ho : Only S w w') (hS : ∀ k, fq r o T.b k → ¬ S k) : RAt w' r o T es := by
  obtain ⟨v, h1, h2, h3, h4, h5, h6⟩ := h
  exact ⟨v, ho.heap h1 (hS r (.inl rfl)), h2.kept ho (fun k hk => hS k (.inr (.inl hk))), h3, ho.heap h4 (hS _ (.inr (.inr rfl))), h5, h6⟩
theorem RAt.new {w w' : World} {r : Nat} {T : Ws} {o : Option Nat} {es : List En} (h : RAt w r o T es) (ho : Only (fun _ => False) w w') : RAt w' r o T es := h.kept ho (fun _ _ h => h)
/-- The cells of the object. -/
theorem RAt.block {w : World} {r : Nat} {T : Ws} {o : Option Nat} {es : List En} (h : RAt w r o T es) : ∃ p cap, es.length ≤ cap ∧ cap ≤ maxLen ∧ w.heap[r]? = some (.cells [.slice (some ⟨T.b, 0, none⟩) T.l.length T.l.length, .slice p es.length cap].toArray 79 (0, 0)) ∧ Win w 3 1 (.slice p es.length cap) o es.length (plc es) ∧ (∀ k, o = some k → k ≠ r ∧ k ≠ T.b) ∧ w.heap[T.b]? = some (.cells (wkCells T.l).toArray 53 (0, 0)) ∧ T.b ≠ r ∧ Fit T es := by
  obtain ⟨v, h1, h2, h3⟩ := h
  obtain ⟨p, cap, rfl, h4, h5⟩ := h2.form
  exact ⟨p, cap, h4, h5, h1, h2, h3⟩

theorem win_pl {w : World} {v : Value} {o : Option Nat} {n : Nat} {es : List En} (h : Win w 3 1 v o n (plc es)) (hn : 0 < n) : ∃ g off cap, o = some g ∧ v = .slice (some ⟨g, off, none⟩) n cap ∧ n ≤ cap ∧ cap ≤ maxLen ∧ g < w.heap.size ∧ (∀ i x, es[i]? = some x → w.cell? ⟨g, off + i, none⟩ = some (.int .i64 (x.n : Int))) ∧ ∀ i, w.frozen? ⟨g, i, none⟩ = false := by
  obtain ⟨g, off, cap, h1, h2, h3, h4, h5, h6, h7⟩ := h.at_ hn
  exact ⟨g, off, cap, h1, h2, h3, h4, h5, fun i x hx => h6 i _ (plc_at hx), h7⟩

theorem len_any {w : World} {r : Nat} {T : Ws} {o : Option Nat} {es : List En} (h : RAt w r o T es) : Calls Try.prog 43 #[.pointer (some ⟨r, 0, none⟩)] w fun e w' => e = .returned (.int .i64 es.length) ∧ w = w' := by
  obtain ⟨p, cap, h1, h2, hb, -⟩ := h.block
  have c1 := row_cell hb (i := 1) rfl
  clear h1 h2 h hb
  go_enter Try.func43, Try.ntmps43
  go_wp2
  go_ret
  exact ⟨rfl, rfl⟩

/-- Whether a place goes ahead of another one. -/
def ltB (x y : En) : Bool := if x.e.t = y.e.t then decide (x.n < y.n) else decide (x.e.t < y.e.t)
def LessEnd (w : World) (x y : En) (e : Ending) (w' : World) : Prop := e = .returned (.bool (ltB x y)) ∧ Only (fun _ => False) w w'

set_option maxHeartbeats 1000000 in
theorem less_any {w : World} {r : Nat} {T : Ws} {o : Option Nat} {es : List En} (h : RAt w r o T es) (i j : Nat) (x y : En) (hx : es[i]? = some x) (hy : es[j]? = some y) : Calls Try.prog 78 #[.pointer (some ⟨r, 0, none⟩), .int .i64 i, .int .i64 j] w (LessEnd w x y) := by
  obtain ⟨p, cap, h1, h2, hb, h3, h4, h5, h6, h7⟩ := h.block
  obtain ⟨hi, -⟩ := List.getElem?_eq_some_iff.1 hx
  obtain ⟨hj, -⟩ := List.getElem?_eq_some_iff.1 hy
  obtain ⟨g, off, cap', ho, hv, h8, h9, h10, h11, h12⟩ := win_pl h3 (by omega)
  cases hv
  have a0 := h11 i x hx
  have b0 := h11 j y hy
  obtain ⟨x', hx', hxd⟩ := h7 x (List.mem_of_getElem? hx)
  obtain ⟨y', hy', hyd⟩ := h7 y (List.mem_of_getElem? hy)
  have a1 := (wk_row h5 hx').2.2
  have b1 := (wk_row h5 hy').2.2
  rw [hxd] at a1
  rw [hyd] at b1
  have hxl := (List.getElem?_eq_some_iff.1 hx').1
  have hyl := (List.getElem?_eq_some_iff.1 hy').1
  obtain ⟨n, hn⟩ : ∃ n, n = es.length := ⟨_, rfl⟩
  have c0 := row_cell hb (i := 0) rfl
  have c1 := row_cell hb (i := 1) rfl
  rw [← hn] at c1 hi hj
  obtain ⟨m, hm⟩ : ∃ m, m = T.l.length := ⟨_, rfl⟩
  rw [← hm] at c0 hxl hyl
  obtain ⟨bw, hbw⟩ : ∃ b, b = T.b := ⟨_, rfl⟩
  rw [← hbw] at c0 a1 b1
  have hi' : (i : Int) < (n : Int) := by omega
  have hj' : (j : Int) < (n : Int) := by omega
  have hxl' : (x.n : Int) < (m : Int) := by omega
  have hyl' : (y.n : Int) < (m : Int) := by omega
  clear h7 h8 h3 h hn hx hy h1 h2 h4 h5 h6 h9 h10 h11 h12 ho hb hx' hy' hxd hyd hm hbw
  go_enter Try.func78, Try.ntmps78
  go_wp2
  have p0 := wd_cell c0
  have p1 := wd_cell c1
  have p2 := wd_cell a0
  have p3 := wd_cell b0
  have hex := wd_ex w
  refine wp_region_wd (by kernel_rfl) (by kernel_rfl) ?_
  repeat (go_big_quiet_step (fail))
  refine wpQuiet_nil ?_
  rintro _ ⟨v, rfl⟩
  have hO1 := Lib.hid v.ok
  replace c0 := v.cell c0
  replace a1 := v.cell a1
  replace b1 := v.cell b1
  obtain ⟨W1, hW1⟩ : ∃ W1, W1 = v.W := ⟨_, rfl⟩
  rw [← hW1] at c0 a1 b1 hO1 ⊢
  clear p0 p1 p2 p3 hex hW1
  go_wp2
  by_cases ht : x.e.t = y.e.t
  · have q1 : (x.e.t == y.e.t) = true := by simpa using ht
    have q2 : (x.e.t != y.e.t) = false := by simpa using ht
    have q3 := Lib.hid (show decide (x.n < y.n) = ltB x y by unfold ltB; rw [if_pos ht])
    clear ht
    have p0 := wd_cell c0
    have p1 := wd_cell a1
    have p2 := wd_cell b1
    have hex := wd_ex W1
    refine wp_region_wd (by kernel_rfl) (by kernel_rfl) ?_
    repeat (go_big_quiet_step (fail))
    refine wpQuiet_nil ?_
    rintro _ ⟨v, rfl⟩
    have hO2 := Lib.hid v.ok
    replace c0 := v.cell c0
    replace a1 := v.cell a1
    replace b1 := v.cell b1
    obtain ⟨W2, hW2⟩ : ∃ W1, W1 = v.W := ⟨_, rfl⟩
    rw [← hW2] at c0 a1 b1 hO2 ⊢
    clear p0 p1 p2 hex hW2
    go_wp2
    go_ret
    refine ⟨?_, hO1.out.trans' hO2.out⟩
    rw [← q3.out]
    exact congrArg (fun b => Ending.returned (.bool b)) (decide_eq_decide.2 (by omega))
  · have q1 : (x.e.t == y.e.t) = false := by simpa using ht
    have q2 : (x.e.t != y.e.t) = true := by simpa using ht
    have q3 := Lib.hid (show decide (x.e.t < y.e.t) = ltB x y by unfold ltB; rw [if_neg ht])
    clear ht
    have p0 := wd_cell c0
    have p1 := wd_cell a1
    have p2 := wd_cell b1
    have hex := wd_ex W1
    refine wp_region_wd (by kernel_rfl) (by kernel_rfl) ?_
    repeat (go_big_quiet_step (fail))
    refine wpQuiet_nil ?_
    rintro _ ⟨v, rfl⟩
    have hO2 := Lib.hid v.ok
    replace c0 := v.cell c0
    replace a1 := v.cell a1
    replace b1 := v.cell b1
    obtain ⟨W2, hW2⟩ : ∃ W1, W1 = v.W := ⟨_, rfl⟩
    rw [← hW2] at c0 a1 b1 hO2 ⊢
    clear p0 p1 p2 hex hW2
    have hO3 := Lib.hid (hO1.out.trans' hO2.out)
    clear hO1 hO2
    go_wp2
    have p0 := wd_cell c0
    have p1 := wd_cell a1
    have p2 := wd_cell b1
    have hex := wd_ex W2
    refine wp_region_wd (by kernel_rfl) (by kernel_rfl) ?_
    repeat (go_big_quiet_step (fail))
    refine wpQuiet_nil ?_
    rintro _ ⟨v, rfl⟩
    have hO2 := Lib.hid v.ok
    replace c0 := v.cell c0
    replace a1 := v.cell a1
    replace b1 := v.cell b1
    obtain ⟨W4, hW4⟩ : ∃ W1, W1 = v.W := ⟨_, rfl⟩
    rw [← hW4] at c0 a1 b1 hO2 ⊢
    clear p0 p1 p2 hex hW4
    go_wp2
    go_ret
    refine ⟨?_, hO3.out.trans' hO2.out⟩
    rw [← q3.out]
    rfl

theorem win_set {w : World} {g off n cap i : Nat} {o : Option Nat} {xs : List Value} (h : Win w 3 1 (.slice (some ⟨g, off, none⟩) n cap) o n xs) (v : Value) (hi : i < xs.length) :
    Win (w.setCell ⟨g, off + i, none⟩ v) 3 1 (.slice (some ⟨g, off, none⟩) n cap) o n (xs.set i v) := by
  obtain ⟨hl, p, cap', hv, h1, h2, h3⟩ := h
  cases hv
  refine ⟨by rw [List.length_set]; exact hl, _, _, rfl, h1, h2, ?_⟩
  rcases h3 with h3 | ⟨g', off', L, hg, hp, hh, h4, h5⟩
  · omega
  · cases hp
    refine .inr ⟨g, off, _, hg, rfl, row_set hh _ v, by rw [List.length_set]; exact h4, ?_⟩
    rw [List.drop_set, if_neg (by omega), Nat.add_sub_cancel_left, List.take_set, h5]
theorem r_set {w : World} {r g off n cap : Nat} {T : Ws} {o : Option Nat} {es : List En} (h : RAt w r o T es) (c1 : w.cell? ⟨r, 1, none⟩ = some (.slice (some ⟨g, off, none⟩) n cap)) (ho : o = some g) (i : Nat) (y : En) (hi : i < es.length) (hy : ∃ z, T.l[y.n]? = some z ∧ (z.d : Int) = y.e.t) :
    RAt (w.setCell ⟨g, off + i, none⟩ (.int .i64 (y.n : Int))) r o T (es.set i y) ∧ Only (fun k => o = some k) w (w.setCell ⟨g, off + i, none⟩ (.int .i64 (y.n : Int))) := by
  obtain ⟨v, h1, h2, h3, h4, h5, h6⟩ := h
  have hv : v = .slice (some ⟨g, off, none⟩) n cap := by
    have := row_cell (L := [_, v]) h1 (i := 1) (v := v) rfl
    rw [this] at c1
    exact Option.some.inj c1
  subst hv
  have hO : Only (fun k => k = g) w (w.setCell ⟨g, off + i, none⟩ (.int .i64 (y.n : Int))) := (Only.refl (fun k => k = g) w).setCell (p := ⟨g, off + i, none⟩) (fun _ => rfl) _
  obtain ⟨_, _, _, hv, _⟩ := id h2
  cases hv
  have hgg := h3 g ho
  refine ⟨⟨_, hO.heap h1 (fun e => hgg.1 e.symm), ?_, h3, hO.heap h4 (fun e => hgg.2 e.symm), h5, ?_⟩, hO.mono (fun x _ e => by rw [ho, e])⟩
  · rw [List.length_set, plc_set]
    exact win_set h2 _ (by rw [plc_length]; exact hi)
  · intro z hz
    rcases List.mem_or_eq_of_mem_set hz with hz | rfl
    · exact h6 z hz
    · exact hy

def SwapEnd (w : World) (r : Nat) (o : Option Nat) (T : Ws) (es : List En) (e : Ending) (w' : World) : Prop := e = .returned (.tuple #[]) ∧ RAt w' r o T es ∧ Only (fun k => o = some k) w w'

set_option maxRecDepth 100000 in
set_option maxHeartbeats 800000 in
theorem swap_two {w : World} {r : Nat} {T : Ws} {o : Option Nat} {es : List En} (h : RAt w r o T es) (i j : Nat) (x y : En) (hx : es[i]? = some x) (hy : es[j]? = some y) (hij : i ≠ j) : Calls Try.prog 81 #[.pointer (some ⟨r, 0, none⟩), .int .i64 i, .int .i64 j] w (SwapEnd w r o T ((es.set i y).set j x)) := by
  obtain ⟨p, cap, h1, h2, hb, h3, h4, h5, h6, h7⟩ := h.block
  obtain ⟨hi, -⟩ := List.getElem?_eq_some_iff.1 hx
  obtain ⟨hj, -⟩ := List.getElem?_eq_some_iff.1 hy
  obtain ⟨g, off, cap', ho, hv, h8, h9, h10, h11, h12⟩ := win_pl h3 (by omega)
  cases hv
  have a0 := h11 i x hx
  have b0 := h11 j y hy
  have c1 := row_cell hb (i := 1) rfl
  have hE1 := r_set h c1 ho i y hi (h7 y (List.mem_of_getElem? hy))
  have hgg := h4 g ho
  have c1' : (w.setCell ⟨g, off + i, none⟩ (.int .i64 (y.n : Int))).cell? ⟨r, 1, none⟩ = some (.slice (some ⟨g, off, none⟩) es.length cap) := hE1.2.cell c1 (fun e => (h4 r e).1 rfl)
  have hE2 := r_set hE1.1 c1' ho j x (by rw [List.length_set]; omega) (h7 x (List.mem_of_getElem? hx))
  have hE := Lib.hid (And.intro hE2.1 (hE1.2.trans' hE2.2))
  clear hE1 hE2 c1'
  obtain ⟨n, hn⟩ : ∃ n, n = es.length := ⟨_, rfl⟩
  rw [← hn] at c1 hi hj
  have hr : r < w.heap.size := h.lt r (.inl rfl)
  have hi' : (i : Int) < (n : Int) := by omega
  have hj' : (j : Int) < (n : Int) := by omega
  have hrg : r ≠ g := fun e => hgg.1 e.symm
  have hgr : g ≠ r := hgg.1
  have ki0 := h12 (off + i)
  have kj0 := h12 (off + j)
  have hd : off + i ≠ off + j := by omega
  have hd' : off + j ≠ off + i := by omega
  clear h7 h3 h hn hx hy h1 h2 h4 h5 h6 h8 h9 h11 h12 ho hb hgg
  go_enter Try.func81, Try.ntmps81
  go_region
  all_goals
    go_wp2
    go_end0
    exact ⟨rfl, hE.out.1.new (Only.refl _ _).drew, hE.out.2.drew⟩
set_option maxRecDepth 100000 in
set_option maxHeartbeats 800000 in
theorem swap_same {w : World} {r : Nat} {T : Ws} {o : Option Nat} {es : List En} (h : RAt w r o T es) (i : Nat) (x : En) (hx : es[i]? = some x) : Calls Try.prog 81 #[.pointer (some ⟨r, 0, none⟩), .int .i64 i, .int .i64 i] w (SwapEnd w r o T ((es.set i x).set i x)) := by
  obtain ⟨p, cap, h1, h2, hb, h3, h4, h5, h6, h7⟩ := h.block
  obtain ⟨hi, -⟩ := List.getElem?_eq_some_iff.1 hx
  obtain ⟨g, off, cap', ho, hv, h8, h9, h10, h11, h12⟩ := win_pl h3 (by omega)
  cases hv
  have a0 := h11 i x hx
  have c1 := row_cell hb (i := 1) rfl
  have hE1 := r_set h c1 ho i x hi (h7 x (List.mem_of_getElem? hx))
  have hgg := h4 g ho
  have c1' : (w.setCell ⟨g, off + i, none⟩ (.int .i64 (x.n : Int))).cell? ⟨r, 1, none⟩ = some (.slice (some ⟨g, off, none⟩) es.length cap) := hE1.2.cell c1 (fun e => (h4 r e).1 rfl)
  have hE2 := r_set hE1.1 c1' ho i x (by rw [List.length_set]; omega) (h7 x (List.mem_of_getElem? hx))
  have hE := Lib.hid (And.intro hE2.1 (hE1.2.trans' hE2.2))
  clear hE1 hE2 c1'
  obtain ⟨n, hn⟩ : ∃ n, n = es.length := ⟨_, rfl⟩
  rw [← hn] at c1 hi
  have hr : r < w.heap.size := h.lt r (.inl rfl)
  have hi' : (i : Int) < (n : Int) := by omega
  have hrg : r ≠ g := fun e => hgg.1 e.symm
  have hgr : g ≠ r := hgg.1
  have ki0 := h12 (off + i)
  clear h7 h3 h hn hx h1 h2 h4 h5 h6 h8 h9 h11 h12 ho hb hgg
  go_enter Try.func81, Try.ntmps81
  go_region
  all_goals
    go_wp2
    go_end0
    exact ⟨rfl, hE.out.1.new (Only.refl _ _).drew, hE.out.2.drew⟩

/-- What taking the last place away leaves. -/
def PopEnd (w : World) (r : Nat) (o : Option Nat) (T : Ws) (es : List En) (x : En) (e : Ending) (w' : World) : Prop :=
  e = .returned (.iface 3 (.int .i64 (x.n : Int))) ∧ RAt w' r o T es ∧ Only (fun k => k = r) w w'

set_option maxHeartbeats 400000 in
theorem pop_any {w : World} {r : Nat} {T : Ws} {o : Option Nat} {es : List En} {x : En} (h : RAt w r o T (es ++ [x])) (hn : es.length ≤ 1000000) : Calls Try.prog 79 #[.pointer (some ⟨r, 0, none⟩)] w (fun e w' => PopEnd w r o T es x e w') := by
  obtain ⟨p, cap, h1, h2, hb, h3, h4, hT, hTr, h7⟩ := h.block
  obtain ⟨n, hn'⟩ : ∃ n, n = es.length := ⟨_, rfl⟩
  have hl : (es ++ [x]).length = n + 1 := by simp [hn']
  obtain ⟨L, hL⟩ : ∃ L, L = n + 1 := ⟨_, rfl⟩
  rw [hl, ← hL] at h1 hb h3
  obtain ⟨g, off, cap', ho, hv, h8, h9, h10, h11, h12⟩ := win_pl h3 (by omega)
  cases hv
  have hr := row_lt hb
  have c1 := row_cell hb (i := 1) rfl
  have f1 := row_free hb 1
  have a0 := h11 n x (by simp [hn'])
  have hL1 : (L : Int) - 1 = (n : Int) := by omega
  have hcn : (n : Int) ≤ (cap : Int) := by omega
  have hn1 : (n : Int) < (L : Int) := by omega
  have hn2 : (0 : Int) ≤ (n : Int) := by omega
  have hn3 : n ≤ 1000000 := by omega
  have hb' := Lib.hid hb
  have hE := Lib.hid (fun W (hW : W.heap[r]? = some (.cells [.slice (some ⟨T.b, 0, none⟩) T.l.length T.l.length, .slice (some ⟨g, off, none⟩) n cap].toArray 79 (0, 0)) ∧ Only (fun k => k = r) w W) => show RAt W r o T es from by
    have ht := h3.take (k := n) (by omega)
    rw [plc_append, List.take_left' (by rw [plc_length, hn', Nat.mul_one])] at ht
    subst hn'
    exact ⟨_, hW.1, ht.kept hW.2 (fun k hk e => (h4 k hk).1 e), h4, hW.2.heap hT hTr, hTr, fun z hz => h7 z (List.mem_append_left _ hz)⟩)
  clear h h1 h2 h3 h4 h7 hb hT hTr hn' hl h8 h9 h11 h12 ho hL
  go_enter Try.func79, Try.ntmps79
  go_wp2
  go_ret
  refine ⟨rfl, hE.out _ ⟨row_set hb'.out 1 _, (Only.refl (fun k => k = r) w).setCell (p := ⟨r, 1, none⟩) (fun _ => rfl) _⟩, ?_⟩
  exact (Only.refl (fun k => k = r) w).setCell (p := ⟨r, 1, none⟩) (fun _ => rfl) _
end Edf
end Go.Proofs.Ytkolbaadakhciaa
