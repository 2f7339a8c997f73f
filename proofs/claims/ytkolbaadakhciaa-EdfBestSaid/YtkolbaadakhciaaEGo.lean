/- edf's ready works: going on. -/
import Derived.Test.YtkolbaadakhciaaELet
namespace Go.Proofs.Ytkolbaadakhciaa
namespace Edf
open Go Go.RowKit

def spend (T : Ws) (p m : Nat) : Ws := ⟨T.b, T.l.set p ⟨rl T.l p, cs T.l p - m, du T.l p⟩⟩
theorem spend_len (T : Ws) (p m : Nat) : (spend T p m).l.length = T.l.length := by simp [spend]
theorem spend_at {T : Ws} {p m q : Nat} (hp : p < T.l.length) : rl (spend T p m).l q = rl T.l q ∧ du (spend T p m).l q = du T.l q ∧ cs (spend T p m).l q = if q = p then cs T.l q - m else cs T.l q := by
  unfold spend rl du cs
  dsimp only
  rw [List.getElem?_set]
  by_cases e : p = q
  · subst e
    rw [if_pos rfl, if_pos hp, if_pos rfl, List.getElem?_eq_getElem hp]
    exact ⟨rfl, rfl, rfl⟩
  · rw [if_neg e, if_neg (fun h => e h.symm)]
    exact ⟨rfl, rfl, rfl⟩
theorem spend_en {T : Ws} {p m i : Nat} (hp : p < T.l.length) : enOf (spend T p m).l i = enOf T.l i := by
  unfold enOf
  rw [(spend_at hp).2.1]
theorem spend_fit {T : Ws} {p m : Nat} {es : List En} (h : Fit T es) (hp : p < T.l.length) : Fit (spend T p m) es := fun x hx => by
  obtain ⟨y, h1, h2⟩ := h x hx
  have hl := (List.getElem?_eq_some_iff.1 h1).1
  have hl2 : x.n < (spend T p m).l.length := by rw [spend_len]; exact hl
  refine ⟨(spend T p m).l[x.n], List.getElem?_eq_getElem hl2, ?_⟩
  have e1 := (cs_at (List.getElem?_eq_getElem hl2)).2.2
  rw [(spend_at hp).2.1, (cs_at h1).2.2] at e1
  rw [← e1]
  exact h2
/-- The store of what is left. -/
theorem spend_r {w : World} {r : Nat} {T : Ws} {o : Option Nat} {es : List En} (h : RAt w r o T es) {p m : Nat} (hp : p < T.l.length) (hm : m ≤ cs T.l p) :
    RAt (w.setCell ⟨T.b, p * 3 + 1, none⟩ (.int .i64 ((cs T.l p : Int) - (m : Int)))) r o (spend T p m) es ∧ Only (fun k => k = T.b) w (w.setCell ⟨T.b, p * 3 + 1, none⟩ (.int .i64 ((cs T.l p : Int) - (m : Int)))) := by
  have hO : Only (fun k => k = T.b) w (w.setCell ⟨T.b, p * 3 + 1, none⟩ (.int .i64 ((cs T.l p : Int) - (m : Int)))) := (Only.refl (fun k => k = T.b) w).setCell (p := ⟨T.b, p * 3 + 1, none⟩) (fun _ => rfl) _
  obtain ⟨v, h1, h2, h3, h4, h5, h6⟩ := h
  refine ⟨⟨v, ?_, h2.kept hO (fun k hk e => (h3 k hk).2 e), h3, ?_, h5, spend_fit h6 hp⟩, hO⟩
  · rw [spend_len]
    exact hO.heap h1 (fun e => h5 e.symm)
  · have h7 := row_set h4 (p * 3 + 1) (.int .i64 ((cs T.l p : Int) - (m : Int)))
    have hx := List.getElem?_eq_getElem hp
    obtain ⟨e1, e2, e3⟩ := cs_at hx
    have h8 := Krn.rowC_set (f := Wk.cells) wk_len T.l p T.l[p] ⟨rl T.l p, cs T.l p - m, du T.l p⟩ 1 (.int .i64 ((cs T.l p : Int) - (m : Int))) hx (by omega) (by
      rw [e1, e2, e3]
      have : ((T.l[p].c - m : Nat) : Int) = (T.l[p].c : Int) - (m : Int) := by omega
      unfold Wk.cells
      dsimp only
      rw [this]
      rfl)
    show (w.setCell ⟨T.b, p * 3 + 1, none⟩ (.int .i64 ((cs T.l p : Int) - (m : Int)))).heap[T.b]? = _
    rw [h7]
    show some (Obj.cells ((Krn.rowC Wk.cells T.l).set (p * 3 + 1) _).toArray 53 (0, 0)) = _
    rw [h8]
    rfl

def GoEnd (w : World) (r : Nat) (o : Option Nat) (T : Ws) (es : List En) (p m : Nat) (e : Ending) (w' : World) : Prop :=
  e = .returned (.tuple #[]) ∧ ∃ o' es', RAt w' r o' (spend T p m) es' ∧ HeapFrom es' 0 es'.length ∧ List.Perm es' (if m < cs T.l p then es ++ [enOf T.l p] else es) ∧ (o' = o ∨ ∃ g, o' = some g ∧ w.heap.size ≤ g) ∧ Only (fq r o T.b) w w'

set_option maxRecDepth 100000 in
set_option maxHeartbeats 4000000 in
theorem goOn_any {w : World} {r : Nat} {T : Ws} {o : Option Nat} {es : List En} (h : RAt w r o T es) (hh : HeapFrom es 0 es.length) (hsz : es.length ≤ 3900) {p m : Nat} {a b : Int} (hp : p < T.l.length) (hab : b - a = (m : Int)) (hm : m ≤ cs T.l p) (hcs : cs T.l p ≤ 1048576) (ha : 0 ≤ a) (hb : b ≤ 3000000000000) :
    Calls Try.prog 46 #[.pointer (some ⟨r, 0, none⟩), .agg #[.int .i64 (p : Int), .int .i64 a, .int .i64 b]] w (GoEnd w r o T es p m) := by
  obtain ⟨Z, hZ⟩ : ∃ Z, Z = GoEnd w r o T es p m := ⟨_, rfl⟩
  rw [← hZ]
  have hZ' := Lib.hid hZ
  obtain ⟨W1, hW1⟩ : ∃ W1, W1 = w.alloc (.cells #[.int .i64 (p : Int), .int .i64 a, .int .i64 b] 71) := ⟨_, rfl⟩
  obtain ⟨X, hX⟩ : ∃ X, X = w.heap.size := ⟨_, rfl⟩
  have s0 : W1.heap[X]? = some (.cells [Value.int .i64 (p : Int), .int .i64 a, .int .i64 b].toArray 71 (0, 0)) := by rw [hW1]; exact heap_new_at _ _ hX.symm
  have hO1 : Only (fun _ => False) w W1 := by rw [hW1]; exact (Only.refl _ w).alloc _
  have h1 := h.new hO1
  obtain ⟨pp, cap, -, -, hbk, -, -, hTb, hTr, -⟩ := h1.block
  have d0 := row_cell hbk (i := 0) rfl
  have hy := List.getElem?_eq_getElem hp
  obtain ⟨e1, e2, e3⟩ := cs_at hy
  have t1 := (wk_row hTb hy).2.1
  rw [← e1] at t1
  have ft := row_free hTb (p * 3 + 1)
  have c0 := row_cell s0 (i := 0) rfl
  have c1 := row_cell s0 (i := 1) rfl
  have c2 := row_cell s0 (i := 2) rfl
  have hXl : ∀ k, fq r o T.b k → k ≠ X := fun k hk e => by have := h.lt k hk; omega
  have hXl' := Lib.hid hXl
  have hsp := Lib.hid (fun nq => spend_r (h1.new ((Only.refl _ W1).drewN nq)) hp hm)
  have hh' := Lib.hid hh
  have hO1' := Lib.hid hO1
  have hp' := Lib.hid hp
  obtain ⟨C, hC⟩ : ∃ C, C = cs T.l p := ⟨_, rfl⟩
  rw [← hC] at t1 hsp hm hcs
  have hC' := Lib.hid hC
  obtain ⟨nT, hnT⟩ : ∃ n, n = T.l.length := ⟨_, rfl⟩
  obtain ⟨bT, hbT⟩ : ∃ n, n = T.b := ⟨_, rfl⟩
  rw [← hnT] at hp
  rw [← hnT, ← hbT] at d0
  rw [← hbT] at t1 ft hsp
  have hnT' := Lib.hid hnT
  have hbT' := Lib.hid hbT
  have s0' := Lib.hid s0
  have hX' := Lib.hid hX
  have hW1' := Lib.hid hW1
  have hpn : (p : Int) < (nT : Int) := by omega
  clear hZ hW1 hX s0 hO1 h1 hbk hTb hy e1 e2 e3 h hh hXl hC hnT hbT
  go_enter Try.func46, Try.ntmps46
  go_upto_region 1 with fail
  rw [← hX'.out]
  rw [← hW1'.out]
  refine wp_region_quiet_tail_lit 17 (by kernel_rfl) (by kernel_rfl) ?_
  simp only [List.take_succ_cons, List.take_zero, List.drop_succ_cons, List.drop_zero]
  repeat (go_big_quiet_step (fail))
  refine wpQuiet_nil ?_
  rintro _ ⟨nq, rfl⟩
  obtain ⟨W3, hW3⟩ : ∃ W3, W3 = (W1.drewN nq).setCell ⟨bT, p * 3 + 1, none⟩ (.int .i64 ((C : Int) - (m : Int))) := ⟨_, rfl⟩
  have h3 := hsp.out nq
  rw [← hW3] at h3
  have t2 : (W1.drewN nq).cell? ⟨bT, p * 3 + 1, none⟩ = some (.int .i64 (C : Int)) := t1
  have f2 : (W1.drewN nq).frozen? ⟨bT, p * 3 + 1, none⟩ = false := ft
  have hO3 : Only (fun k => k = bT) W1 W3 := ((Only.refl (fun k => k = bT) W1).drewN nq).trans' h3.2
  have hXb : X ≠ bT := fun e => hXl'.out bT (.inr (.inr hbT'.out)) e.symm
  have hs3 := hO3.heap s0'.out hXb
  have hR3 := Lib.hid h3.1
  have hO3' := Lib.hid hO3
  have hW3' := Lib.hid hW3
  have hs3' := Lib.hid hs3
  obtain ⟨pp3, cap3, -, -, hbk3, -, -, hTb3, -, -⟩ := h3.1.block
  have d3 := row_cell hbk3 (i := 0) rfl
  rw [spend_len, ← hnT'.out, show (spend T p m).b = bT from hbT'.out.symm] at d3
  have hp3 : p < (spend T p m).l.length := by rw [spend_len]; exact hp'.out
  have hy3 := List.getElem?_eq_getElem hp3
  have t3 := (wk_row hTb3 hy3).2.1
  rw [← (cs_at hy3).1, (spend_at hp'.out).2.2, if_pos rfl, ← hC'.out, show (spend T p m).b = bT from hbT'.out.symm] at t3
  have x0 := row_cell hs3 (i := 0) rfl
  clear h3 hO3 hs3 hbk3 hTb3 hp3 hy3 c0 c1 c2 d0 t1 ft hsp hW3
  go_wp2_with fail
  rw [← hW3'.out]
  clear t2 f2
  have p0 := wd_cell x0
  have p1 := wd_cell d3
  have p2 := wd_cell t3
  have hex := wd_ex W3
  refine wp_region_wd (by kernel_rfl) (by kernel_rfl) ?_
  repeat (go_big_quiet_step (fail))
  refine wpQuiet_nil ?_
  rintro _ ⟨x, rfl⟩
  obtain ⟨W4, hW4⟩ : ∃ W4, W4 = x.W := ⟨_, rfl⟩
  have hO4 := Lib.hid (show Only (fun _ => False) W3 W4 from hW4 ▸ x.ok)
  rw [← hW4]
  have y0 := x.cell x0
  rw [← hW4] at y0
  clear p0 p1 p2 hex hW4 x0 d3 t3
  have hR4 := Lib.hid (hR3.out.new hO4.out)
  have hOall := Lib.hid (show Only (fq r o T.b) w W4 from ((hO1'.out.mono (fun _ _ h => h.elim)).trans (hO3'.out.trans' (hO4.out.mono (fun _ _ h => h.elim))) (fun k _ hk => .inr (.inr (by rw [hk, hbT'.out])))))
  by_cases hlt : m < C
  · have hlt' : (0 : Int) < ((C - m : Nat) : Int) := by omega
    have hlt2 : 0 < C - m := by omega
    have qp := Lib.hid (hpush_any hR4.out hh'.out hsz (enOf (spend T p m).l p) (enOf_fit (by rw [spend_len]; exact hp'.out)))
    have hfin := Lib.hid (show ∀ W e, HPushEnd W4 r o (spend T p m) es (enOf (spend T p m).l p) e W → Z (.returned (.tuple #[])) W from by
      rintro W e ⟨-, o2, es2, j1, j2, j3, j4, j5⟩
      rw [hZ'.out]
      refine ⟨rfl, o2, es2, j1, j3, ?_, ?_, ?_⟩
      · rw [if_pos (by rw [← hC'.out]; exact hlt), ← spend_en hp'.out]
        exact j2
      · rcases j4 with j4 | ⟨g', j4, hg'⟩
        · exact .inl j4
        · exact .inr ⟨g', j4, by have := hOall.out.size; omega⟩
      · exact hOall.out.trans j5 (fun k _ e => by
          rcases e with e | e
          · exact .inl e
          · exact .inr (.inl e)))
    clear hR4 hOall hR3 hlt
    go_wp2_with fail
    refine qp.out.mono ?_
    intro e W5 hp5
    have hz := Lib.hid (hfin.out W5 e hp5)
    obtain ⟨rfl, -⟩ := hp5
    go_wp2
    go_end0
    exact hz.out
  · have hlt' : ¬ (0 : Int) < ((C - m : Nat) : Int) := by omega
    have hlt2 : ¬ 0 < C - m := by omega
    have hfin := Lib.hid (show Z (.returned (.tuple #[])) W4 from by
      rw [hZ'.out]
      exact ⟨rfl, o, es, hR4.out, hh'.out, by rw [if_neg (by rw [← hC'.out]; exact hlt)], .inl rfl, hOall.out⟩)
    clear hR4 hOall hR3 hlt
    go_wp2
    go_end0
    exact hfin.out
end Edf
end Go.Proofs.Ytkolbaadakhciaa
