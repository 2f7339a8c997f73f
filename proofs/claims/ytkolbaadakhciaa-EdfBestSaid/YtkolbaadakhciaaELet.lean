/- edf's ready works: who is let in, and going on. -/
import Derived.Test.YtkolbaadakhciaaEByr
namespace Go.Proofs.Ytkolbaadakhciaa
namespace Edf
open Go Go.RowKit

def enOf (l : List Wk) (i : Nat) : En := ⟨⟨(du l i : Int)⟩, i⟩
theorem enOf_fit {T : Ws} {i : Nat} (h : i < T.l.length) : ∃ y, T.l[(enOf T.l i).n]? = some y ∧ (y.d : Int) = (enOf T.l i).e.t := by
  refine ⟨T.l[i], List.getElem?_eq_getElem h, ?_⟩
  have := (cs_at (List.getElem?_eq_getElem h)).2.2
  unfold enOf
  dsimp only
  rw [this]
/-- Blocks apart. -/
def Apart (r : Nat) (o hc : Option Nat) (b : Nat) : Prop := ∀ k, hc = some k → k ≠ r ∧ k ≠ b ∧ o ≠ some k
def LetEnd (w : World) (r : Nat) (o : Option Nat) (T : Ws) (es : List En) (Cm : List Nat) (now : Nat) (e : Ending) (w' : World) : Prop :=
  ∃ o' es' v' hc' Tk Cm', e = .returned v' ∧ Cm = Tk ++ Cm' ∧ List.Perm es' (es ++ Tk.map (enOf T.l)) ∧ HeapFrom es' 0 es'.length ∧ RAt w' r o' T es' ∧ Win w' 3 1 v' hc' Cm'.length (dat Cm') ∧ Apart r o' hc' T.b ∧ (∀ i ∈ Tk, rl T.l i ≤ now) ∧ (∀ i, Cm'.head? = some i → now < rl T.l i) ∧ (o' = o ∨ ∃ g, o' = some g ∧ w.heap.size ≤ g) ∧ Only (fp r o) w w'

set_option maxRecDepth 100000 in
set_option maxHeartbeats 4000000 in
theorem let_any {w : World} {r : Nat} {T : Ws} {o : Option Nat} {es : List En} (h : RAt w r o T es) (hh : HeapFrom es 0 es.length) {v : Value} {hc : Option Nat} {Cm : List Nat} (hC : Win w 3 1 v hc Cm.length (dat Cm)) (hd : Apart r o hc T.b) (hm : ∀ i ∈ Cm, i < T.l.length) (hsz : es.length + Cm.length ≤ 3900) (now : Nat) :
    Calls Try.prog 44 #[.pointer (some ⟨r, 0, none⟩), v, .int .i64 (now : Int)] w (LetEnd w r o T es Cm now) := by
  obtain ⟨Z, hZ⟩ : ∃ Z, Z = LetEnd w r o T es Cm now := ⟨_, rfl⟩
  rw [← hZ]
  have hZ' := Lib.hid hZ
  have hm' := Lib.hid hm
  have hs := Lib.hid (And.intro h (And.intro hh (And.intro hC hd)))
  clear hZ h hh hC hd hm
  go_enter Try.func44, Try.ntmps44
  go_wp2
  go_loopg [1] Cm.length (fun N u wr => ∃ (o' : Option Nat) (es' : List En) (hc' : Option Nat) (Tk Cm' : List Nat), N = Cm'.length ∧ Hid (Win wr 3 1 u hc' Cm'.length (dat Cm')) ∧ Hid (Cm = Tk ++ Cm' ∧ List.Perm es' (es ++ Tk.map (enOf T.l)) ∧ HeapFrom es' 0 es'.length ∧ RAt wr r o' T es' ∧ Apart r o' hc' T.b ∧ (∀ i ∈ Tk, rl T.l i ≤ now) ∧ (o' = o ∨ ∃ g, o' = some g ∧ w.heap.size ≤ g) ∧ Only (fp r o) w wr))
  case atStart => exact ⟨o, es, hc, [], Cm, rfl, Lib.hid hs.out.2.2.1, Lib.hid ⟨rfl, by simp, hs.out.2.1, hs.out.1, hs.out.2.2.2, by simp, .inl rfl, Only.refl _ _⟩⟩
  case round =>
    obtain ⟨o', es', hc', Tk, Cm', hN, hW, hI⟩ := hrel
    obtain ⟨P, cap, hv, hcap, hcm⟩ := hW.out.form
    subst hv
    obtain ⟨m, hml⟩ : ∃ m, m = Cm'.length := ⟨_, rfl⟩
    rw [← hml] at hW hcap ⊢
    rw [← hml] at hN
    have hml' := Lib.hid hml
    have hN' := Lib.hid hN
    clear hml hN
    by_cases h0 : m = 0
    · have hfin := Lib.hid (fun W (ho : Only (fun _ => False) wr W) => show Z (.returned (.slice P m cap)) W from by
        obtain ⟨i1, i2, i3, i4, i5, i6, i7, i8⟩ := hI.out
        have hnil : Cm' = [] := List.eq_nil_of_length_eq_zero (by rw [← hml'.out]; exact h0)
        rw [hZ'.out]
        exact ⟨o', es', _, hc', Tk, Cm', rfl, i1, i2, i3, i4.new ho, by rw [← hml'.out]; exact hW.out.kept ho (fun _ _ h => h), i5, i6, by rw [hnil]; simp, i7, i8.trans' (ho.mono (fun _ _ h => h.elim))⟩)
      have hd1 : decide (0 < m) = false := decide_eq_false (by omega)
      have hd2 : decide ((0 : Int) < (m : Int)) = false := decide_eq_false (by omega)
      go_upto_region 1 with fail
      go_quiet (fail)
      go_wp2
      exact hfin.out _ ((Only.refl _ _).drewN _)
    · obtain ⟨g, off, cap2, hg, hPv, -, -, hgl, hcell, -⟩ := hW.out.at_ (by omega)
      cases hPv
      obtain ⟨i, Cr, hCr⟩ : ∃ i Cr, Cm' = i :: Cr := by
        cases hCC : Cm' with
        | nil => have := hml'.out; rw [hCC] at this; simp at this; omega
        | cons i Cr => exact ⟨i, Cr, rfl⟩
      have c0 := hcell 0 (.int .i64 (i : Int)) (by rw [hCr]; rfl)
      rw [Nat.add_zero] at c0
      obtain ⟨i1, i2, i3, i4, i5, i6, i7, i8⟩ := hI.out
      have hil : i < T.l.length := hm'.out i (by rw [i1, hCr]; simp)
      obtain ⟨p, cap3, -, -, hb, -, -, hTb, -, -⟩ := i4.block
      have d0 := row_cell hb (i := 0) rfl
      obtain ⟨y, hy⟩ : ∃ y, T.l[i]? = some y := ⟨_, List.getElem?_eq_getElem hil⟩
      have t0 := (wk_row hTb hy).1
      have hry : rl T.l i = y.r := (cs_at hy).2.1
      obtain ⟨nT, hnT⟩ : ∃ n, n = T.l.length := ⟨_, rfl⟩
      obtain ⟨bT, hbT⟩ : ∃ n, n = T.b := ⟨_, rfl⟩
      rw [← hnT, ← hbT] at d0
      rw [← hbT] at t0
      have hil' : (i : Int) < (nT : Int) := by omega
      have hm0 : (0 : Int) < (m : Int) := by omega
      have hd1 : decide (0 < m) = true := decide_eq_true (by omega)
      have hd2 : decide ((0 : Int) < (m : Int)) = true := decide_eq_true (by omega)
      have p0 := wd_cell c0
      have p1 := wd_cell d0
      have p2 := wd_cell t0
      have hex := wd_ex wr
      have hCr' := Lib.hid hCr
      have hry' := Lib.hid hry
      have hil2 := Lib.hid hil
      clear i1 i2 i3 i4 i5 i6 i7 i8 hb hTb hcell c0 d0 t0 hy hCr hry hil hnT hbT
      go_upto_region 1 with fail
      refine wp_region_wd (by kernel_rfl) (by kernel_rfl) ?_
      repeat (go_big_quiet_step (fail))
      refine wpQuiet_nil ?_
      rintro _ ⟨x, rfl⟩
      obtain ⟨W1, hW1⟩ : ∃ W1, W1 = x.W := ⟨_, rfl⟩
      have hO1 := Lib.hid (show Only (fun _ => False) wr W1 from hW1 ▸ x.ok)
      rw [← hW1]
      have c1 := x.cell (p0 (Wd.self wr))
      rw [← hW1] at c1
      clear p0 p1 p2 hex hW1
      by_cases hle : y.r ≤ now
      · have hle' : (y.r : Int) ≤ (now : Int) := by omega
        obtain ⟨i1, i2, i3, i4, i5, i6, i7, i8⟩ := hI.out
        have hes : es'.length ≤ 3900 := by
          have h1 := i2.length_eq
          have h2 := congrArg List.length i1
          simp at h1 h2
          omega
        have qp := Lib.hid (hpush_any (i4.new hO1.out) i3 hes (enOf T.l i) (enOf_fit hil2.out))
        have hnext := Lib.hid (show ∀ W e, HPushEnd W1 r o' T es' (enOf T.l i) e W → ∃ o2 es2, Only (fp r o') W1 W ∧ (Cm = (Tk ++ [i]) ++ Cr ∧ List.Perm es2 (es ++ (Tk ++ [i]).map (enOf T.l)) ∧ HeapFrom es2 0 es2.length ∧ RAt W r o2 T es2 ∧ Apart r o2 hc' T.b ∧ (∀ j ∈ Tk ++ [i], rl T.l j ≤ now) ∧ (o2 = o ∨ ∃ g, o2 = some g ∧ w.heap.size ≤ g) ∧ Only (fp r o) w W) from by
          rintro W e ⟨-, o2, es2, j1, j2, j3, j4, j5⟩
          refine ⟨o2, es2, j5, by rw [i1, hCr'.out]; simp, ?_, j3, j1, ?_, ?_, ?_, ?_⟩
          · refine j2.trans ?_
            rw [List.map_append, ← List.append_assoc]
            exact i2.append_right _
          · intro k hk
            obtain ⟨a1, a2, a3⟩ := i5 k hk
            refine ⟨a1, a2, ?_⟩
            rcases j4 with rfl | ⟨g', rfl, hg'⟩
            · exact a3
            · intro e
              cases e
              have := hW.out.lt k hk
              have := hO1.out.size
              omega
          · intro j hj
            rcases List.mem_append.1 hj with hj | hj
            · exact i6 j hj
            · have e1 := List.mem_singleton.1 hj
              rw [e1, hry'.out]; exact hle
          · rcases j4 with rfl | ⟨g', rfl, hg'⟩
            · exact i7
            · exact .inr ⟨g', rfl, by have := i8.size; have := hO1.out.size; omega⟩
          · exact (i8.trans' (hO1.out.mono (fun _ _ h => h.elim))).trans j5 (fun k hk e => by
              rcases e with e | e
              · exact .inl e
              · rcases i7 with rfl | ⟨g', rfl, hg'⟩
                · exact .inr e
                · cases e; omega))
        have hnx := Lib.hid (fun k (hk : hc' = some k) (hf : fp r o' k) => show False from by
          obtain ⟨a1, a2, a3⟩ := i5 k hk
          rcases hf with e | e
          · exact a1 e
          · exact a3 e)
        clear i1 i2 i3 i4 i5 i6 i7 i8
        go_wp2_with fail
        refine qp.out.mono ?_
        intro e W2 hp2
        obtain ⟨o2, es2, k1, k2⟩ := hnext.out W2 e hp2
        obtain ⟨rfl, -⟩ := hp2
        have hW2 := Lib.hid ((hW.out.kept hO1.out (fun _ _ h => h)).kept k1 (fun k hk hf => hnx.out k hk hf))
        have hI2 := Lib.hid k2
        clear k1 k2
        obtain ⟨hn2, hdr, hhn⟩ := hW2.out.drop (k := 1) (by omega)
        have hdat : (dat Cm').drop (1 * 1) = dat Cr := by rw [hCr'.out]; rfl
        have hlen : m - 1 = Cr.length := by have := hml'.out; rw [hCr'.out] at this; simp at this; omega
        rw [hdat, hlen] at hdr
        have hI3 := Lib.hid (show Cm = (Tk ++ [i]) ++ Cr ∧ List.Perm es2 (es ++ (Tk ++ [i]).map (enOf T.l)) ∧ HeapFrom es2 0 es2.length ∧ RAt W2 r o2 T es2 ∧ Apart r o2 hn2 T.b ∧ (∀ j ∈ Tk ++ [i], rl T.l j ≤ now) ∧ (o2 = o ∨ ∃ g, o2 = some g ∧ w.heap.size ≤ g) ∧ Only (fp r o) w W2 from by
          obtain ⟨j1, j2, j3, j4, j5, j6, j7, j8⟩ := hI2.out
          refine ⟨j1, j2, j3, j4, ?_, j6, j7, j8⟩
          rcases hhn with rfl | rfl
          · exact j5
          · intro k hk; cases hk)
        have hdr' := Lib.hid hdr
        have hlen' := Lib.hid hlen
        have hm1 : (1 : Int) ≤ (m : Int) ∧ (1 : Int) ≤ (cap : Int) := by omega
        clear hdr hlen hdat hhn c1
        by_cases hc1 : cap = 1
        · rw [if_pos hc1] at hdr'
          have hc0 : cap - 1 = 0 := by omega
          rw [hc0] at hdr'
          go_wp2_with fail
          rw [hlen'.out]
          go_roundg Cr.length
          case measure => have := hN'.out; have := hlen'.out; omega
          case rel => exact ⟨o2, es2, hn2, Tk ++ [i], Cr, rfl, hdr', hI3⟩
        · rw [if_neg hc1] at hdr'
          rw [show (some (⟨g, off, none⟩ : Addr)).map (·.add (1 * 1)) = some ⟨g, off + 1, none⟩ from rfl] at hdr'
          go_wp2_with fail
          rw [hlen'.out]
          go_roundg Cr.length
          case measure => have := hN'.out; have := hlen'.out; omega
          case rel => exact ⟨o2, es2, hn2, Tk ++ [i], Cr, rfl, hdr', hI3⟩
      · have hle' : ¬ (y.r : Int) ≤ (now : Int) := by omega
        have hfin := Lib.hid (show Z (.returned (.slice (some ⟨g, off, none⟩) m cap)) W1 from by
          obtain ⟨i1, i2, i3, i4, i5, i6, i7, i8⟩ := hI.out
          rw [hZ'.out]
          refine ⟨o', es', _, hc', Tk, Cm', rfl, i1, i2, i3, i4.new hO1.out, by rw [← hml'.out]; exact hW.out.kept hO1.out (fun _ _ h => h), i5, i6, ?_, i7, i8.trans' (hO1.out.mono (fun _ _ h => h.elim))⟩
          intro j hj
          rw [hCr'.out] at hj
          simp at hj
          rw [← hj, hry'.out]
          omega)
        go_wp2
        exact hfin.out
end Edf
end Go.Proofs.Ytkolbaadakhciaa
