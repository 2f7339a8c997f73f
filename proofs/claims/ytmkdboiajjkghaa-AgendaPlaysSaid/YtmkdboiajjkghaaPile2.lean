/- The pile's Less and Swap. -/
import Derived.Test.YtmkdboiajjkghaaPile
namespace Go.Proofs.Ytmkdboiajjkghaa
open Go Go.RowKit

/-- Whether an entry goes ahead of another one. -/
def ltB (x y : En) : Bool := if x.e.t = y.e.t then decide (x.n < y.n) else decide (x.e.t < y.e.t)
def LessEnd (w : World) (x y : En) (e : Ending) (w' : World) : Prop := e = .returned (.bool (ltB x y)) ∧ Only (fun _ => False) w w'

set_option maxHeartbeats 400000 in
theorem less_any {w : World} {r T : Nat} {o : Option Nat} {es : List En} (h : AgAt w r o T es) (i j : Nat) (x y : En) (hx : es[i]? = some x) (hy : es[j]? = some y) : Calls Try.prog 37 #[.pointer (some ⟨r, 0, none⟩), .int .i64 i, .int .i64 j] w (LessEnd w x y) := by
  obtain ⟨p, cap, h1, h2, c0, c1, f0, f1, h3⟩ := h.cells
  obtain ⟨hi, -⟩ := List.getElem?_eq_some_iff.1 hx
  obtain ⟨hj, -⟩ := List.getElem?_eq_some_iff.1 hy
  obtain ⟨g, off, cap', ho, hv, h4, h5, h6, h7, h8⟩ := win_en h3 (by omega)
  cases hv
  obtain ⟨a0, a1, a2, a3, a4, a5⟩ := h7 i x hx
  obtain ⟨b0, b1, b2, b3, b4, b5⟩ := h7 j y hy
  obtain ⟨n, hn⟩ : ∃ n, n = es.length := ⟨_, rfl⟩
  rw [← hn] at c0 hi hj
  have hr : r < w.heap.size := h.lt r (.inl rfl)
  have hi' : (i : Int) < (n : Int) := by omega
  have hj' : (j : Int) < (n : Int) := by omega
  clear h7 h8 h3 h hn hx hy h1 h2 h4 h5 f0 f1 c1 ho
  go_enter Try.func37, Try.ntmps37
  go_wp2
  go_region
  all_goals
    by_cases ht : x.e.t = y.e.t
    · have q1 : (x.e.t == y.e.t) = true := by simpa using ht
      have q2 : (x.e.t != y.e.t) = false := by simpa using ht
      have q3 := Lib.hid (show decide (x.n < y.n) = ltB x y by unfold ltB; rw [if_pos ht])
      clear ht
      go_wp2
      go_ret
      exact ⟨congrArg (fun b => Ending.returned (.bool b)) q3.out, (((Only.refl _ w).alloc _).alloc _).drew⟩
    · have q1 : (x.e.t == y.e.t) = false := by simpa using ht
      have q2 : (x.e.t != y.e.t) = true := by simpa using ht
      have q3 := Lib.hid (show decide (x.e.t < y.e.t) = ltB x y by unfold ltB; rw [if_neg ht])
      clear ht
      go_wp2
      go_ret
      exact ⟨congrArg (fun b => Ending.returned (.bool b)) q3.out, (((Only.refl _ w).alloc _).alloc _).drew⟩

/-- A whole element stored. -/
theorem enCells_set (l : List En) (i : Nat) (y : En) (hi : i < l.length) : enCells (l.set i y) = setList (enCells l) (i * 6) y.cells := by
  apply List.ext_getElem?
  intro k
  have e1 : (enCells (l.set i y)).length = l.length * 6 := by rw [enCells_length, List.length_set]
  have e2 := enCells_length l
  by_cases hk : k < l.length * 6
  · have hk6 : k = k / 6 * 6 + k % 6 := by omega
    have hm : k % 6 < 6 := Nat.mod_lt _ (by omega)
    have hq : k / 6 < l.length := by omega
    have hc : y.cells.length = 6 := rfl
    by_cases hki : k / 6 = i
    · have h1 : (l.set i y)[k / 6]? = some y := by rw [hki]; exact List.getElem?_set_self hi
      have h2 := enCells_at _ _ _ h1 (k % 6) hm
      rw [← hk6] at h2
      rw [h2, show k = i * 6 + k % 6 by omega, setList_in _ _ _ _ (by omega) (by omega)]
      congr 1
      omega
    · have h1 : (l.set i y)[k / 6]? = some l[k / 6] := by rw [List.getElem?_set_ne (by omega)]; exact List.getElem?_eq_getElem hq
      have h2 := enCells_at _ _ _ h1 (k % 6) hm
      have h3 := enCells_at l _ _ (List.getElem?_eq_getElem hq) (k % 6) hm
      rw [← hk6] at h2 h3
      rw [h2, setList_out _ _ _ _ (by omega), h3]
  · rw [List.getElem?_eq_none (by omega), List.getElem?_eq_none (by rw [setList_length]; omega)]
theorem setList_window {L xs news : List Value} {off a m : Nat} (hx : (L.drop off).take m = xs) (hm : a + news.length ≤ m) (hL : off + m ≤ L.length) : ((setList L (off + a) news).drop off).take m = setList xs a news := by
  apply List.ext_getElem?
  intro i
  rw [List.getElem?_take]
  have hxl : xs.length = m := by rw [← hx, List.length_take, List.length_drop]; omega
  by_cases hi : i < m
  · rw [if_pos hi, List.getElem?_drop]
    by_cases ha : a ≤ i ∧ i < a + news.length
    · have e1 := setList_in news (off + a) L (i - a) (by omega) (by omega)
      have e2 := setList_in news a xs (i - a) (by omega) (by omega)
      rw [show off + a + (i - a) = off + i by omega] at e1
      rw [show a + (i - a) = i by omega] at e2
      rw [e1, e2]
    · rw [setList_out _ _ _ _ (by omega), setList_out _ _ _ _ (by omega), ← hx, List.getElem?_take, if_pos hi, List.getElem?_drop]
  · rw [if_neg hi, List.getElem?_eq_none (by rw [setList_length]; omega)]
theorem win_set {w : World} {g off n cap : Nat} {o : Option Nat} {es : List En} (h : Win w 48 6 (.slice (some ⟨g, off, none⟩) n cap) o n (enCells es)) (i : Nat) (y : En) (hi : i < es.length) :
    Win (w.setCells g (off + i * 6) y.cells) 48 6 (.slice (some ⟨g, off, none⟩) n cap) o n (enCells (es.set i y)) := by
  obtain ⟨hl, p, cap', hv, h1, h2, h3⟩ := h
  cases hv
  rw [enCells_length] at hl
  refine ⟨by rw [enCells_length, List.length_set]; exact hl, _, _, rfl, h1, h2, ?_⟩
  rcases h3 with h3 | ⟨g', off', L, hg, hp, hh, h4, h5⟩
  · omega
  · cases hp
    refine .inr ⟨g, off, _, hg, rfl, heap_setCells _ _ _ _ hh, by rw [setList_length]; exact h4, ?_⟩
    have hn : n * 6 ≤ cap * 6 := Nat.mul_le_mul_right _ h1
    rw [enCells_set es i y hi]
    exact setList_window h5 (by show i * 6 + 6 ≤ _; omega) (by omega)
theorem ag_set {w : World} {r T g off n cap : Nat} {o : Option Nat} {es : List En} (h : AgAt w r o T es) (c0 : w.cell? ⟨r, 0, none⟩ = some (.slice (some ⟨g, off, none⟩) n cap)) (ho : o = some g) (i : Nat) (y : En) (hi : i < es.length) :
    AgAt (w.setCells g (off + i * 6) y.cells) r o T (es.set i y) ∧ Only (fun k => o = some k) w (w.setCells g (off + i * 6) y.cells) := by
  obtain ⟨v, h1, h2, h3⟩ := h
  have hv : v = .slice (some ⟨g, off, none⟩) n cap := by
    have := row_cell (L := [v, .int .u64 T]) h1 (i := 0) (v := v) rfl
    rw [this] at c0
    exact Option.some.inj c0
  subst hv
  have hO := only_setCells (g := g) y.cells (off + i * 6) w
  obtain ⟨_, _, _, hv, _⟩ := id h2
  cases hv
  refine ⟨⟨_, hO.heap h1 (fun e => h3 g ho e.symm), ?_, h3⟩, hO.mono (fun x _ e => by rw [ho, e])⟩
  rw [List.length_set]
  exact win_set h2 i y hi

def SwapEnd (w : World) (r : Nat) (o : Option Nat) (T : Nat) (es : List En) (e : Ending) (w' : World) : Prop := e = .returned (.tuple #[]) ∧ AgAt w' r o T es ∧ Only (fun k => o = some k) w w'

set_option maxRecDepth 100000 in
set_option maxHeartbeats 800000 in
theorem swap_two {w : World} {r T : Nat} {o : Option Nat} {es : List En} (h : AgAt w r o T es) (i j : Nat) (x y : En) (hx : es[i]? = some x) (hy : es[j]? = some y) (hij : i ≠ j) : Calls Try.prog 39 #[.pointer (some ⟨r, 0, none⟩), .int .i64 i, .int .i64 j] w (SwapEnd w r o T ((es.set i y).set j x)) := by
  obtain ⟨p, cap, h1, h2, c0, c1, f0, f1, h3⟩ := h.cells
  obtain ⟨hi, -⟩ := List.getElem?_eq_some_iff.1 hx
  obtain ⟨hj, -⟩ := List.getElem?_eq_some_iff.1 hy
  obtain ⟨g, off, cap', ho, hv, h4, h5, h6, h7, h8⟩ := win_en h3 (by omega)
  cases hv
  obtain ⟨a0, a1, a2, a3, a4, a5⟩ := h7 i x hx
  obtain ⟨b0, b1, b2, b3, b4, b5⟩ := h7 j y hy
  have hE1 := ag_set h c0 ho i y hi
  have c0' : (w.setCells g (off + i * 6) (En.cells y)).cell? ⟨r, 0, none⟩ = some (.slice (some ⟨g, off, none⟩) es.length cap) := hE1.2.cell c0 (fun e => by
    obtain ⟨_, _, _, h3⟩ := h
    exact h3 r e rfl)
  have hE2 := ag_set hE1.1 c0' ho j x (by rw [List.length_set]; omega)
  have hE := Lib.hid (And.intro hE2.1 (hE1.2.trans' hE2.2))
  clear hE1 hE2 c0'
  obtain ⟨n, hn⟩ : ∃ n, n = es.length := ⟨_, rfl⟩
  rw [← hn] at c0 hi hj
  have hr : r < w.heap.size := h.lt r (.inl rfl)
  have hi' : (i : Int) < (n : Int) := by omega
  have hj' : (j : Int) < (n : Int) := by omega
  have hrg : r ≠ g := by obtain ⟨_, _, _, h3⟩ := h; exact fun e => h3 g ho e.symm
  have hgr : g ≠ r := fun e => hrg e.symm
  have ki0 := h8 (off + i * 6)
  have ki1 := h8 (off + i * 6 + 1)
  have ki2 := h8 (off + i * 6 + 2)
  have ki3 := h8 (off + i * 6 + 3)
  have ki4 := h8 (off + i * 6 + 4)
  have ki5 := h8 (off + i * 6 + 5)
  have kj0 := h8 (off + j * 6)
  have kj1 := h8 (off + j * 6 + 1)
  have kj2 := h8 (off + j * 6 + 2)
  have kj3 := h8 (off + j * 6 + 3)
  have kj4 := h8 (off + j * 6 + 4)
  have kj5 := h8 (off + j * 6 + 5)
  have hd : off + i * 6 ≠ off + j * 6 := by omega
  have hd' : off + j * 6 ≠ off + i * 6 := by omega
  clear h7 h3 h hn hx hy h1 h2 h4 h5 f0 f1 c1 ho h8
  go_enter Try.func39, Try.ntmps39
  go_region
  all_goals
    go_wp2
    go_end0
    exact ⟨rfl, hE.out.1.new (Only.refl _ _).drew, hE.out.2.drew⟩
set_option maxRecDepth 100000 in
set_option maxHeartbeats 800000 in
theorem swap_same {w : World} {r T : Nat} {o : Option Nat} {es : List En} (h : AgAt w r o T es) (i : Nat) (x : En) (hx : es[i]? = some x) : Calls Try.prog 39 #[.pointer (some ⟨r, 0, none⟩), .int .i64 i, .int .i64 i] w (SwapEnd w r o T ((es.set i x).set i x)) := by
  obtain ⟨p, cap, h1, h2, c0, c1, f0, f1, h3⟩ := h.cells
  obtain ⟨hi, -⟩ := List.getElem?_eq_some_iff.1 hx
  obtain ⟨g, off, cap', ho, hv, h4, h5, h6, h7, h8⟩ := win_en h3 (by omega)
  cases hv
  obtain ⟨a0, a1, a2, a3, a4, a5⟩ := h7 i x hx
  have hE1 := ag_set h c0 ho i x hi
  have c0' : (w.setCells g (off + i * 6) (En.cells x)).cell? ⟨r, 0, none⟩ = some (.slice (some ⟨g, off, none⟩) es.length cap) := hE1.2.cell c0 (fun e => by
    obtain ⟨_, _, _, h3⟩ := h
    exact h3 r e rfl)
  have hE2 := ag_set hE1.1 c0' ho i x (by rw [List.length_set]; omega)
  have hE := Lib.hid (And.intro hE2.1 (hE1.2.trans' hE2.2))
  clear hE1 hE2 c0'
  obtain ⟨n, hn⟩ : ∃ n, n = es.length := ⟨_, rfl⟩
  rw [← hn] at c0 hi
  have hr : r < w.heap.size := h.lt r (.inl rfl)
  have hi' : (i : Int) < (n : Int) := by omega
  have hrg : r ≠ g := by obtain ⟨_, _, _, h3⟩ := h; exact fun e => h3 g ho e.symm
  have hgr : g ≠ r := fun e => hrg e.symm
  have ki0 := h8 (off + i * 6)
  have ki1 := h8 (off + i * 6 + 1)
  have ki2 := h8 (off + i * 6 + 2)
  have ki3 := h8 (off + i * 6 + 3)
  have ki4 := h8 (off + i * 6 + 4)
  have ki5 := h8 (off + i * 6 + 5)
  clear h7 h3 h hn hx h1 h2 h4 h5 f0 f1 c1 ho h8
  go_enter Try.func39, Try.ntmps39
  go_region
  all_goals
    go_wp2
    go_end0
    exact ⟨rfl, hE.out.1.new (Only.refl _ _).drew, hE.out.2.drew⟩
end Go.Proofs.Ytmkdboiajjkghaa
