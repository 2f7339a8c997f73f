/- edf: the stretches walked. -/
import Derived.Test.YtkolbaadakhciaaESt
namespace Go.Proofs.Ytkolbaadakhciaa
namespace Edf
open Go Go.RowKit

def Frm (w wr : World) (l : List Wk) (r : Nat) (vc vt : Value) (t : Nat) : Prop :=
  ∃ (T : Ws) (es : List En) (o hc : Option Nat) (Cm : List Nat) (ht : Option Nat) (S : List Str), Mem w wr r T es o vc hc Cm vt ht S ∧ Inv l t T es Cm S ∧ S.length + tot l t ≤ tot l 0

theorem nodup_bound : ∀ {N : Nat} {L : List Nat}, L.Nodup → (∀ q ∈ L, q < N) → L.length ≤ N := by
  intro N
  induction N with
  | zero =>
    intro L _ h
    cases L with
    | nil => exact Nat.le_refl _
    | cons x L => exact absurd (h x (by simp)) (Nat.not_lt_zero _)
  | succ N ih =>
    intro L hn h
    by_cases hN : N ∈ L
    · have h1 := List.length_erase_of_mem hN
      have h2 := ih (hn.erase N) (fun q hq => by
        have h3 := h q (List.mem_of_mem_erase hq)
        have h4 : q ≠ N := fun e => by
          rw [e] at hq
          exact (hn.not_mem_erase) hq
        omega)
      omega
    · have := ih hn (fun q hq => by
        have h3 := h q hq
        have h4 : q ≠ N := fun e => hN (e ▸ hq)
        omega)
      omega
theorem rl_map (raws : List RW) (q : Nat) : rl (raws.map clampW) q ≤ 1048576 := by
  unfold rl
  rw [List.getElem?_map]
  cases raws[q]? with
  | none => exact Nat.zero_le _
  | some x => exact near_le _
theorem cs_map (raws : List RW) (q : Nat) : cs (raws.map clampW) q ≤ 1048576 := by
  unfold cs
  rw [List.getElem?_map]
  cases raws[q]? with
  | none => exact Nat.zero_le _
  | some x => exact near_le _

set_option maxRecDepth 100000 in
set_option maxHeartbeats 4000000 in
theorem stretches_any {N : Nat} (hS : Sorts N) {A : Option Addr} {n cap : Nat} {raws : List RW} {w : World} (hr : WRow w A raws) (hn : raws.length = n) (hnN : n ≤ N) (hn9 : n ≤ 3900) :
    Calls Try.prog 37 #[.slice A n cap] w (StEnd w (raws.map clampW)) := by
  obtain ⟨Z, hZ⟩ : ∃ Z, Z = StEnd w (raws.map clampW) := ⟨_, rfl⟩
  rw [← hZ]
  have hZ' := Lib.hid hZ
  obtain ⟨l, hl⟩ : ∃ l, l = raws.map clampW := ⟨_, rfl⟩
  have hll : l.length = n := by rw [hl, List.length_map, hn]
  have hrl : ∀ q, rl l q ≤ 1048576 := fun q => by rw [hl]; exact rl_map raws q
  have hcs : ∀ q, cs l q ≤ 1048576 := fun q => by rw [hl]; exact cs_map raws q
  have qb := bounded_any (cap := cap) hr hn (by omega)
  rw [← hl] at qb hZ'
  have qb' := Lib.hid qb
  have hll' := Lib.hid hll
  have hrl' := Lib.hid hrl
  have hcs' := Lib.hid hcs
  clear hZ hr hn qb hl hll hrl hcs
  go_enter Try.func37, Try.ntmps37
  go_wp2_with fail
  refine qb'.out.mono ?_
  rintro e w1 ⟨X, rfl, hX, hXb, hO1⟩
  obtain ⟨W2, hW2⟩ : ∃ W2, W2 = w1.alloc (.cells #[.slice (some ⟨X, 0, none⟩) n n, .slice none 0 0] 79) := ⟨_, rfl⟩
  obtain ⟨r, hr⟩ : ∃ r, r = w1.heap.size := ⟨_, rfl⟩
  have s0 : W2.heap[r]? = some (.cells [Value.slice (some ⟨X, 0, none⟩) n n, .slice none 0 0].toArray 79 (0, 0)) := by rw [hW2]; exact heap_new_at _ _ hr.symm
  have hO2 : Only (fun _ => False) w W2 := by rw [hW2]; exact hO1.alloc _
  have hXb2 : W2.heap[X]? = some (.cells (wkCells l).toArray 53 (0, 0)) := by rw [hW2]; exact heap_kept_alloc hXb _
  have hXr : X ≠ r := fun e => by have := row_lt hXb; omega
  have qy := Lib.hid (byr_any hS hXb2 hll'.out hnN (by omega))
  have hstart := Lib.hid (show ∀ W e, ByrEnd W2 l e W → ∃ vc, e = .returned vc ∧ Frm w W l r vc (.slice none 0 0) 0 ∧ Only (fun _ => False) w W from by
    rintro W e ⟨v, h, L, h1, h2, h3, h4, h5, h6⟩
    refine ⟨v, h1, ⟨⟨X, l⟩, [], none, h, L, none, [], ⟨⟨_, ?_, Win.nil _ _ _, (fun k hk => by cases hk), h6.heap hXb2 (fun h => h), hXr, (fun x hx => absurd hx List.not_mem_nil)⟩, (fun k h1 h2 h3 => absurd h2 (Nat.not_lt_zero _)), h2, fun k hk => ?_, Win.nil _ _ _, ⟨?_, hX, (fun k hk => by cases hk), (fun k hk => by cases hk)⟩, hO2.trans' h6⟩, Inv.first h4 h5, by simp⟩, hO2.trans' h6⟩
    · have := h6.heap s0 (fun h => h)
      rw [← hll'.out] at this
      exact this
    · have h7 := h3 k hk
      have h8 := row_lt s0
      have h9 := row_lt hXb2
      exact ⟨by omega, by show k ≠ X; omega, by simp⟩
    · have := hO1.size
      omega)
  have d0 := row_cell s0 (i := 0) rfl
  have hW2' := Lib.hid hW2
  have hr' := Lib.hid hr
  clear hW2 hr s0 hO2 hXb2 hXr hX hXb hO1 qb' hS
  go_upto_region 2 with fail
  rw [← hr'.out]
  rw [← hW2'.out]
  go_wp2_with fail
  refine qy.out.mono ?_
  intro e W3 h3
  obtain ⟨vc0, rfl, hF0, -⟩ := hstart.out W3 e h3
  have hF0' := Lib.hid hF0
  clear h3 hF0 hstart d0 qy
  go_wp2_with fail
  go_loopg [4, 5, 6, 7] (tot l 0) (fun G vc vt u6 _ wr => ∃ t : Nat, u6 = .int .i64 (t : Int) ∧ G = tot l t ∧ Hid (Frm w wr l r vc vt t))
  case atStart => exact ⟨0, rfl, rfl, hF0'⟩
  case round =>
    obtain ⟨t, rfl, hG, hF⟩ := hrel
    obtain ⟨T, es, o, hc, Cm, ht, S, hM, hI, hSl⟩ := hF.out
    have hI' := Lib.hid hI
    have hSl' := Lib.hid hSl
    have hG' := Lib.hid hG
    obtain ⟨P, cpc, hv, hcap, hcm⟩ := hM.c.form
    obtain ⟨Pt, cpt, hvt, hcapt, hcmt⟩ := hM.t.form
    subst hv hvt
    obtain ⟨m, hml⟩ : ∃ m, m = Cm.length := ⟨_, rfl⟩
    obtain ⟨sn, hsn⟩ : ∃ n, n = S.length := ⟨_, rfl⟩
    rw [← hml] at hcap hM ⊢
    rw [← hsn] at hcapt hM ⊢
    have hml' := Lib.hid hml
    have hsn' := Lib.hid hsn
    have ql := Lib.hid (len_any hM.rt)
    obtain ⟨en, hen⟩ : ∃ n, n = es.length := ⟨_, rfl⟩
    rw [← hen] at ql
    have hen' := Lib.hid hen
    have hbnd : m ≤ 3900 ∧ en ≤ 3900 := by
      have h1 := hI.nd
      have h2 : (es.map (·.n) ++ Cm).length ≤ l.length := by
        refine nodup_bound h1 (fun q hq => ?_)
        rcases List.mem_append.1 hq with hq | hq
        · obtain ⟨x, hx, rfl⟩ := List.mem_map.1 hq
          exact (hI.inn x hx).1
        · exact (hI.com q hq).1
      have h4 := hll'.out
      simp at h2
      omega
    obtain ⟨hm9, he9⟩ := hbnd
    have hM' := Lib.hid hM
    clear hM hI hSl hG hml hsn hen hF
    obtain ⟨B, hB⟩ : ∃ B, B = decide (0 < m ∨ 0 < en) := ⟨_, rfl⟩
    have hB' := Lib.hid hB
    clear hB
    go_upto_region 5 with fail
    go_cut [24] from 17 to 24 (fun v wd => v = .bool B ∧ wd = wr)
    case first =>
      by_cases h0 : m = 0
      · have hd1 : ¬ (0 : Int) < (m : Int) := by omega
        have hd2 : decide (0 < m) = false := decide_eq_false (by omega)
        have h0' := Lib.hid h0
        clear h0
        go_wp2_with (go_at_call 43; refine ql.out.mono ?_; rintro e w9 ⟨rfl, rfl⟩)
        go_meet
        case rel =>
          refine ⟨?_, rfl⟩
          rw [hB'.out]
          have := h0'.out
          exact congrArg Value.bool (decide_eq_decide.2 (by omega))
      · have hd1 : (0 : Int) < (m : Int) := by omega
        have hd2 : decide (0 < m) = true := decide_eq_true (by omega)
        go_wp2
        go_meet
        case rel =>
          refine ⟨?_, rfl⟩
          rw [hB'.out, decide_eq_true (by omega)]
    obtain ⟨rfl, hwc⟩ := hcut
    subst hwc
    cases B with
    | false =>
      have hz : m = 0 ∧ en = 0 := by have := of_decide_eq_false hB'.out.symm; omega
      have hfin := Lib.hid (show Z (.returned (.slice Pt sn cpt)) wc from by
        rw [hZ'.out]
        have hI := hI'.out
        have h1 : es = [] := List.eq_nil_of_length_eq_zero (by rw [← hen'.out]; exact hz.2)
        have h2 : Cm = [] := List.eq_nil_of_length_eq_zero (by rw [← hml'.out]; exact hz.1)
        refine ⟨_, ht, S, t, rfl, hM'.out.t, hM'.out.b.2.2.2, hI.told, fun q hq => ?_, ?_, hM'.out.on⟩
        · rcases Nat.eq_zero_or_pos (lef l t q) with h3 | h3
          · exact h3
          · rcases hI.all q hq h3 with ⟨x, hx, -⟩ | hx
            · rw [h1] at hx; cases hx
            · rw [h2] at hx; cases hx
        · have h4 := tot_bound hcs'.out
          have h5 := hSl'.out
          omega)
      go_wp2
      exact hfin.out
    | true =>
      have hz : 0 < m ∨ 0 < en := of_decide_eq_true hB'.out.symm
      go_upto_region 6 with fail
      go_wp2_with fail
      refine ql.out.mono ?_
      rintro e w9 ⟨rfl, rfl⟩
      go_upto_if 27 with fail
      go_cut [6] from 27 to 37 (fun v wd => ∃ t1 : Nat, v = .int .i64 (t1 : Int) ∧ Hid (Only (fun _ => False) wc wd ∧ Inv l t1 T es Cm S ∧ tot l t1 = tot l t ∧ (en = 0 → ∀ i, Cm.head? = some i → t1 = rl l i)))
      case first =>
        by_cases h0 : en = 0
        · have hd1 : ((en : Int) == 0) = true := by simpa using h0
          have h0' := Lib.hid h0
          have hm0 : 0 < m := by omega
          obtain ⟨i, Cr, hCr⟩ : ∃ i Cr, Cm = i :: Cr := by
            cases hCC : Cm with
            | nil => have := hml'.out; rw [hCC] at this; simp at this; omega
            | cons i Cr => exact ⟨i, Cr, rfl⟩
          have hW := hM'.out.c
          rw [← hml'.out] at hW
          obtain ⟨g, off, cap2, hg, hPv, -, -, hgl, hcell, -⟩ := hW.at_ (by omega)
          cases hPv
          have c0 := hcell 0 (.int .i64 (i : Int)) (by rw [hCr]; rfl)
          rw [Nat.add_zero] at c0
          obtain ⟨p, cap3, -, -, hb, -, -, hTb, -, -⟩ := hM'.out.rt.block
          have d0 := row_cell hb (i := 0) rfl
          have hil : i < T.l.length := by rw [hI'.out.len]; exact (hI'.out.com i (by rw [hCr]; simp)).1
          obtain ⟨y, hy⟩ : ∃ y, T.l[i]? = some y := ⟨_, List.getElem?_eq_getElem hil⟩
          have t0 := (wk_row hTb hy).1
          have hry : y.r = rl l i := by rw [← (cs_at hy).2.1]; exact (hI'.out.cur i).1
          rw [hry] at t0
          obtain ⟨nT, hnT⟩ : ∃ n, n = T.l.length := ⟨_, rfl⟩
          obtain ⟨bT, hbT⟩ : ∃ n, n = T.b := ⟨_, rfl⟩
          rw [← hnT, ← hbT] at d0
          rw [← hbT] at t0
          have hil' : (i : Int) < (nT : Int) := by omega
          have hm1 : (0 : Int) < (m : Int) := by omega
          have hes : es = [] := List.eq_nil_of_length_eq_zero (by rw [← hen'.out]; exact h0)
          have hJ := Lib.hid (show Inv l (rl l i) T es Cm S ∧ tot l (rl l i) = tot l t ∧ ∀ j, Cm.head? = some j → rl l i = rl l j from by
            have hI := hI'.out
            rw [hes, hCr] at hI ⊢
            have hj := hI.jump hrl'.out
            refine ⟨hj, ?_, fun j hj => by cases hj; rfl⟩
            have h1 := hj.tb
            unfold tot
            refine sm_same fun q _ => ?_
            have h2 := (hI.cur q).2.2
            have h3 := (hj.cur q).2.2
            rw [← h2, ← h3])
          have p0 := wd_cell c0
          have p1 := wd_cell d0
          have p2 := wd_cell t0
          have hex := wd_ex wc
          clear h0 hW hcell hb hTb hil hy hry hnT hbT hes hCr c0 d0 t0 ql hm0
          go_wp2_with fail
          refine wp_region_wd (by kernel_rfl) (by kernel_rfl) ?_
          repeat (go_big_quiet_step (fail))
          refine wpQuiet_nil ?_
          rintro _ ⟨x, rfl⟩
          have hx := Lib.hid x.ok
          clear p0 p1 p2 hex
          go_wp2_with fail
          go_meet
          case rel => exact ⟨rl l i, rfl, Lib.hid ⟨hx.out, hJ.out.1, hJ.out.2.1, fun _ => hJ.out.2.2⟩⟩
        · have hd1 : ((en : Int) == 0) = false := by simpa using h0
          go_wp2
          go_meet
          case rel => exact ⟨t, rfl, Lib.hid ⟨Only.refl _ _, hI'.out, rfl, fun h => absurd h h0⟩⟩
      obtain ⟨t1, rfl, hX1⟩ := hcut
      have hM1 := Lib.hid (hM'.out.new hX1.out.1)
      have hI1 := Lib.hid hX1.out.2.1
      have hT1 := Lib.hid hX1.out.2.2
      clear hM' hX1 hI'
      have ht1 : t1 ≤ 1000000000000 := by
        have h1 := hI1.out.tb
        have h2 := tot_bound hcs'.out
        have h3 := hll'.out
        omega
      have qlet := Lib.hid (let_any hM1.out.rt hM1.out.hp hM1.out.c hM1.out.ap (fun i hi => by rw [hI1.out.len]; exact (hI1.out.com i hi).1) (by
        have h1 := hI1.out.nd
        have h2 : (es.map (·.n) ++ Cm).length ≤ l.length := by
          refine nodup_bound h1 (fun q hq => ?_)
          rcases List.mem_append.1 hq with hq | hq
          · obtain ⟨x, hx, rfl⟩ := List.mem_map.1 hq
            exact (hI1.out.inn x hx).1
          · exact (hI1.out.com q hq).1
        have h4 := hll'.out
        simp at h2
        omega) t1)
      go_wp2_with fail
      refine qlet.out.mono ?_
      intro e W2 hle
      obtain ⟨o1, es1, v1, hc1, Tk, Cm1, rfl, hCm, hp1, hTk, hhd, hM2⟩ := hM1.out.lets hle
      have hI2 := Lib.hid (show Inv l t1 T es1 Cm1 S from by
        have h1 := hI1.out
        rw [hCm] at h1
        exact h1.lets hp1 hTk)
      have hne : 0 < es1.length := by
        rcases Nat.eq_zero_or_pos es1.length with h0 | h0
        · exfalso
          have h1 := hp1.length_eq
          rw [List.length_append, List.length_map, h0] at h1
          have h2 : es.length = 0 ∧ Tk.length = 0 := by omega
          have h3 : en = 0 := by have := hen'.out; omega
          have h4 : Tk = [] := List.eq_nil_of_length_eq_zero h2.2
          rw [h4, List.nil_append] at hCm
          cases hCC : Cm with
          | nil => have := hml'.out; rw [hCC] at this; simp at this; omega
          | cons i Cr =>
            have h5 := hT1.out.2 h3 i (by rw [hCC]; rfl)
            have h6 := hhd i (by rw [← hCm, hCC]; rfl)
            rw [(hI1.out.cur i).1] at h6
            omega
        · exact h0
      obtain ⟨x, hx⟩ : ∃ x, es1[0]? = some x := ⟨es1[0], List.getElem?_eq_getElem hne⟩
      have hmin := Lib.hid (show ∀ y ∈ es1, le x y from fun y hy => by
        obtain ⟨k, hk⟩ := List.getElem?_of_mem hy
        exact heap_min hM2.hp (Nat.le_refl _) k (List.getElem?_eq_some_iff.1 hk).1 x y hx hk)
      have hes9 : es1.length ≤ 3900 := by
        have h1 := (List.nodup_append.1 hI2.out.nd).1
        have h2 := nodup_bound h1 (N := l.length) (fun q hq => by
          obtain ⟨x, hx, rfl⟩ := List.mem_map.1 hq
          exact (hI2.out.inn x hx).1)
        have h4 := hll'.out
        simp at h2
        omega
      have qpop := Lib.hid (hpop_any hM2.rt hM2.hp (by omega) x hx)
      have hM2' := Lib.hid hM2
      have hhd' := Lib.hid hhd
      have hxin := Lib.hid (hI2.out.inn x (List.mem_of_getElem? hx))
      have hTb2 := Lib.hid hT1.out.1
      clear hle hCm hp1 hTk hhd hM2 hne hx hM1 hI1 hT1 qlet ql
      have t1a := ta1
      obtain ⟨P1, cp1, hv1, hcap1, hcm1⟩ := hM2'.out.c.form
      subst hv1
      obtain ⟨m1, hml1⟩ : ∃ m, m = Cm1.length := ⟨_, rfl⟩
      rw [← hml1] at hcap1 hM2' ⊢
      have hml1' := Lib.hid hml1
      clear hml1
      go_wp2_with fail
      refine qpop.out.mono ?_
      intro e W3 hpo
      obtain ⟨rfl, es2, hp2, hM3⟩ := hM2'.out.pop hpo
      have hM3' := Lib.hid hM3
      have hp2' := Lib.hid hp2
      obtain ⟨p, hp⟩ : ∃ p, p = x.n := ⟨_, rfl⟩
      rw [← hp] at hxin ⊢
      have hp' := Lib.hid hp
      have hpT : p < T.l.length := by rw [hI2.out.len]; exact hxin.out.1
      obtain ⟨C, hC⟩ : ∃ C, C = lef l t1 p := ⟨_, rfl⟩
      rw [← hC] at hxin
      have hC9 : C ≤ 1048576 := by rw [hC]; exact Nat.le_trans (lef_le l t1 p) (hcs'.out p)
      have hCT : cs T.l p = C := by rw [hC]; exact (hI2.out.cur p).2.2
      obtain ⟨W4, hW4⟩ : ∃ W4, W4 = W3.alloc (.cells #[.int .i64 (p : Int), .int .i64 (t1 : Int), .int .i64 0] 71) := ⟨_, rfl⟩
      obtain ⟨Y, hY⟩ : ∃ Y, Y = W3.heap.size := ⟨_, rfl⟩
      have y0 : W4.heap[Y]? = some (.cells [Value.int .i64 (p : Int), .int .i64 (t1 : Int), .int .i64 0].toArray 71 (0, 0)) := by rw [hW4]; exact heap_new_at _ _ hY.symm
      have hO4 : Only (fun _ => False) W3 W4 := by rw [hW4]; exact (Only.refl _ _).alloc _
      have hM4 := hM3.new hO4
      obtain ⟨pp3, cap3, -, -, hb4, -, -, hTb4, -, -⟩ := hM4.rt.block
      have d0 := row_cell hb4 (i := 0) rfl
      have hyT := List.getElem?_eq_getElem hpT
      have c0 := (wk_row hTb4 hyT).2.1
      rw [← (cs_at hyT).1, hCT] at c0
      have z0 := row_cell y0 (i := 0) rfl
      have z2 := row_cell y0 (i := 2) rfl
      have f2 := row_free y0 2
      obtain ⟨nT, hnT⟩ : ∃ n, n = T.l.length := ⟨_, rfl⟩
      obtain ⟨bT, hbT⟩ : ∃ n, n = T.b := ⟨_, rfl⟩
      rw [← hnT, ← hbT] at d0
      rw [← hbT] at c0
      have hpn : (p : Int) < (nT : Int) := by omega
      have hYne : ∀ k, k < W3.heap.size → k ≠ Y := fun k hk => by omega
      have hYne' := Lib.hid hYne
      have y0' := Lib.hid y0
      have hM4' := Lib.hid hM4
      have hCT' := Lib.hid hCT
      have hY' := Lib.hid hY
      have hW4' := Lib.hid hW4
      have hnT' := Lib.hid hnT
      have hbT' := Lib.hid hbT
      have hpT' := Lib.hid hpT
      have hC' := Lib.hid hC
      have hYb : Y ≠ bT := fun e => hYne bT (by rw [hbT]; exact hM3.rt.lt _ (.inr (.inr rfl))) e.symm
      have hYr : Y ≠ r := fun e => hYne r (hM3.rt.lt _ (.inl rfl)) e.symm
      clear hpo hM3 hp2 hp hpT hC hCT hW4 hY y0 hO4 hM4 hb4 hTb4 hyT hnT hbT hYne hM2' qpop
      go_upto_region 10 with fail
      rw [← hY'.out]
      rw [← hW4'.out]
      refine wp_region_quiet_tail_lit 12 (by kernel_rfl) (by kernel_rfl) ?_
      simp only [List.take_succ_cons, List.take_zero, List.drop_succ_cons, List.drop_zero]
      repeat (go_big_quiet_step (fail))
      refine wpQuiet_nil ?_
      rintro _ ⟨nq, rfl⟩
      obtain ⟨E0, hE0⟩ : ∃ E, E = t1 + C := ⟨_, rfl⟩
      have hE1 : (t1 : Int) + (C : Int) = (E0 : Int) := by omega
      have hE0' := Lib.hid hE0
      obtain ⟨W5, hW5⟩ : ∃ W5, W5 = (W4.drewN nq).setCell ⟨Y, 2, none⟩ (.int .i64 (E0 : Int)) := ⟨_, rfl⟩
      have hO5 : Only (fun k => k = Y) W4 W5 := by rw [hW5]; exact ((Only.refl (fun k => k = Y) W4).drewN nq).setCell (p := ⟨Y, 2, none⟩) (fun _ => rfl) _
      have y5 : W5.heap[Y]? = some (.cells [Value.int .i64 (p : Int), .int .i64 (t1 : Int), .int .i64 (E0 : Int)].toArray 71 (0, 0)) := by
        rw [hW5]
        exact row_set (L := [Value.int .i64 (p : Int), .int .i64 (t1 : Int), .int .i64 0]) (show (W4.drewN nq).heap[Y]? = _ from y0'.out) 2 _
      have z3 : (W4.drewN nq).cell? ⟨Y, 2, none⟩ = some (.int .i64 0) := z2
      have f3 : (W4.drewN nq).frozen? ⟨Y, 2, none⟩ = false := f2
      have hW5' := Lib.hid hW5
      have hO5' := Lib.hid hO5
      have y5' := Lib.hid y5
      clear hE0 hW5 hO5 y5 z0 z2 f2 d0 c0
      go_upto_if 62 with fail
      rw [← hW5'.out]
      clear z3 f3
      go_cut [] from 58 to 76 (fun wd => ∃ mm : Nat, Hid (0 < mm ∧ mm ≤ C ∧ ∀ q ∈ Cm1, t1 + mm ≤ rl l q) ∧ Hid (wd.heap[Y]? = some (.cells [Value.int .i64 (p : Int), .int .i64 (t1 : Int), .int .i64 ((t1 + mm : Nat) : Int)].toArray 71 (0, 0))) ∧ Hid (Only (fun k => k = Y) W4 wd))
      case first =>
        by_cases h0 : m1 = 0
        · have hd1 : ¬ (0 : Int) < (m1 : Int) := by omega
          have hd2 : decide (0 < m1) = false := decide_eq_false (by omega)
          have hd3 : decide ((0 : Int) < (m1 : Int)) = false := decide_eq_false (by omega)
          have hC1 : Cm1 = [] := List.eq_nil_of_length_eq_zero (by rw [← hml1'.out]; exact h0)
          have hJ := Lib.hid (show 0 < C ∧ C ≤ C ∧ ∀ q ∈ Cm1, t1 + C ≤ rl l q from ⟨hxin.out.2.2.1, Nat.le_refl _, by rw [hC1]; simp⟩)
          have hY5 := Lib.hid (show W5.heap[Y]? = some (.cells [Value.int .i64 (p : Int), .int .i64 (t1 : Int), .int .i64 ((t1 + C : Nat) : Int)].toArray 71 (0, 0)) from by rw [← hE0'.out]; exact y5'.out)
          clear h0 hC1
          go_wp2
          go_meet
          case rel => exact ⟨C, hJ, hY5, hO5'⟩
        · have hd1 : (0 : Int) < (m1 : Int) := by omega
          obtain ⟨i, Cr, hCr⟩ : ∃ i Cr, Cm1 = i :: Cr := by
            cases hCC : Cm1 with
            | nil => have := hml1'.out; rw [hCC] at this; simp at this; omega
            | cons i Cr => exact ⟨i, Cr, rfl⟩
          have hMM := hM4'.out
          have hW := hMM.c
          rw [← hml1'.out] at hW
          obtain ⟨g, off, cap2, hg, hPv, -, -, hgl, hcell, -⟩ := hW.at_ (by omega)
          cases hPv
          have hgY : g ≠ Y := fun e => by
            have h1 := hcell 0 (.int .i64 (i : Int)) (by rw [hCr]; rfl)
            exact win_apart (hMM.c) y0'.out (by decide) (hg.trans (by rw [e]))
          have c0 := hcell 0 (.int .i64 (i : Int)) (by rw [hCr]; rfl)
          rw [Nat.add_zero] at c0
          replace c0 := hO5'.out.cell c0 hgY
          obtain ⟨pp, cap3, -, -, hb, -, -, hTb, -, -⟩ := hMM.rt.block
          have d0 := hO5'.out.cell (row_cell hb (i := 0) rfl) (fun e => hYr e.symm)
          have hil : i < T.l.length := by rw [hI2.out.len]; exact (hI2.out.com i (by rw [hCr]; simp)).1
          obtain ⟨y, hy⟩ : ∃ y, T.l[i]? = some y := ⟨_, List.getElem?_eq_getElem hil⟩
          have t0 := hO5'.out.cell (wk_row hTb hy).1 (fun e => hYb (by rw [hbT'.out]; exact e.symm))
          have hry : y.r = rl l i := by rw [← (cs_at hy).2.1]; exact (hI2.out.cur i).1
          rw [hry] at t0
          rw [← hnT'.out, ← hbT'.out] at d0
          rw [← hbT'.out] at t0
          have hil' : (i : Int) < (nT : Int) := by have := hnT'.out; omega
          have hti : t1 < rl l i := by
            have h1 := hhd'.out i (by rw [hCr]; rfl)
            rwa [(hI2.out.cur i).1] at h1
          have hsr := hI2.out.srt
          rw [hCr] at hsr
          have hle : ∀ q ∈ Cm1, rl l i ≤ rl l q := fun q hq => by
            rw [hCr] at hq
            rcases List.mem_cons.1 hq with rfl | hq
            · exact Nat.le_refl _
            · have := (List.pairwise_cons.1 hsr).1 q hq
              dsimp only at this
              omega
          obtain ⟨R, hR⟩ : ∃ R, R = rl l i := ⟨_, rfl⟩
          rw [← hR] at t0 hti hle
          clear hR
          have x2 := row_cell y5'.out (i := 2) rfl
          have xf := row_free y5'.out 2
          have hle' := Lib.hid hle
          have hst := Lib.hid (fun nq (v : Nat) => (show ((W5.drewN nq).setCell ⟨Y, 2, none⟩ (.int .i64 (v : Int))).heap[Y]? = some (.cells [Value.int .i64 (p : Int), .int .i64 (t1 : Int), .int .i64 (v : Int)].toArray 71 (0, 0)) ∧ Only (fun k => k = Y) W4 ((W5.drewN nq).setCell ⟨Y, 2, none⟩ (.int .i64 (v : Int))) from
            ⟨row_set (L := [Value.int .i64 (p : Int), .int .i64 (t1 : Int), .int .i64 (E0 : Int)]) (show (W5.drewN nq).heap[Y]? = _ from y5'.out) 2 _, (hO5'.out.drewN nq).setCell (p := ⟨Y, 2, none⟩) (fun _ => rfl) _⟩))
          clear hW hcell hb hTb hil hy hry hCr hMM hsr hle h0
          by_cases hlt : E0 < R
          · have hlt' : (E0 : Int) < (R : Int) := by omega
            have hJ := Lib.hid (show 0 < C ∧ C ≤ C ∧ ∀ q ∈ Cm1, t1 + C ≤ rl l q from ⟨hxin.out.2.2.1, Nat.le_refl _, fun q hq => by have := hle'.out q hq; have := hE0'.out; omega⟩)
            have hmx := Lib.hid (show ((E0 : Nat) : Int) = ((t1 + C : Nat) : Int) from by rw [hE0'.out])
            go_wp2_with fail
            refine wp_region_quiet_tail_lit 14 (by kernel_rfl) (by kernel_rfl) ?_
            simp only [List.take_succ_cons, List.take_zero, List.drop_succ_cons, List.drop_zero]
            repeat (go_big_quiet_step (fail))
            refine wpQuiet_nil ?_
            rintro _ ⟨nq2, rfl⟩
            have x3 : (W5.drewN nq2).cell? ⟨Y, 2, none⟩ = some (.int .i64 (E0 : Int)) := x2
            have xf3 : (W5.drewN nq2).frozen? ⟨Y, 2, none⟩ = false := xf
            have hq := Lib.hid (hst.out nq2 E0)
            go_wp2_with fail
            go_meet
            case rel => exact ⟨C, hJ, Lib.hid ((hq.out.1).trans (by rw [hmx.out])), Lib.hid hq.out.2⟩
          · by_cases heq : E0 = R
            · have hJ := Lib.hid (show 0 < C ∧ C ≤ C ∧ ∀ q ∈ Cm1, t1 + C ≤ rl l q from ⟨hxin.out.2.2.1, Nat.le_refl _, fun q hq => by have := hle'.out q hq; have := hE0'.out; omega⟩)
              have hmx := Lib.hid (show ((E0 : Nat) : Int) = ((t1 + C : Nat) : Int) from by rw [hE0'.out])
              rw [← heq] at t0
              clear hlt heq
              go_wp2_with fail
              refine wp_region_quiet_tail_lit 14 (by kernel_rfl) (by kernel_rfl) ?_
              simp only [List.take_succ_cons, List.take_zero, List.drop_succ_cons, List.drop_zero]
              repeat (go_big_quiet_step (fail))
              refine wpQuiet_nil ?_
              rintro _ ⟨nq2, rfl⟩
              have x3 : (W5.drewN nq2).cell? ⟨Y, 2, none⟩ = some (.int .i64 (E0 : Int)) := x2
              have xf3 : (W5.drewN nq2).frozen? ⟨Y, 2, none⟩ = false := xf
              have hq := Lib.hid (hst.out nq2 E0)
              go_wp2_with fail
              go_meet
              case rel => exact ⟨C, hJ, Lib.hid ((hq.out.1).trans (by rw [hmx.out])), Lib.hid hq.out.2⟩
            · have hlt' : (R : Int) < (E0 : Int) := by omega
              have hJ := Lib.hid (show 0 < R - t1 ∧ R - t1 ≤ C ∧ ∀ q ∈ Cm1, t1 + (R - t1) ≤ rl l q from ⟨by omega, by have := hE0'.out; omega, fun q hq => by have := hle'.out q hq; omega⟩)
              have hmx := Lib.hid (show ((R : Nat) : Int) = ((t1 + (R - t1) : Nat) : Int) from by omega)
              clear hlt heq
              go_wp2_with fail
              refine wp_region_quiet_tail_lit 14 (by kernel_rfl) (by kernel_rfl) ?_
              simp only [List.take_succ_cons, List.take_zero, List.drop_succ_cons, List.drop_zero]
              repeat (go_big_quiet_step (fail))
              refine wpQuiet_nil ?_
              rintro _ ⟨nq2, rfl⟩
              have x3 : (W5.drewN nq2).cell? ⟨Y, 2, none⟩ = some (.int .i64 (E0 : Int)) := x2
              have xf3 : (W5.drewN nq2).frozen? ⟨Y, 2, none⟩ = false := xf
              have hq := Lib.hid (hst.out nq2 R)
              go_wp2_with fail
              go_meet
              case rel => exact ⟨R - t1, hJ, Lib.hid ((hq.out.1).trans (by rw [hmx.out])), Lib.hid hq.out.2⟩
      obtain ⟨mm, hmm, hY6, hO6⟩ := hcut
      obtain ⟨W6, hW6⟩ : ∃ W6 : World, W6 = wc := ⟨_, rfl⟩
      rw [← hW6] at hY6 hO6 ⊢
      have hM6 := Lib.hid (show Mem w W6 r T es2 o1 (.slice P1 m1 cp1) hc1 Cm1 (.slice Pt sn cpt) ht S from by
        have h4 := hM4'.out
        have h3 := hM3'.out
        obtain ⟨b1, b2, b3, b4⟩ := h4.b
        have hne := hYne'.out
        refine ⟨h4.rt.kept hO6.out (fun k hk e => hne k (h3.rt.lt k hk) e), h4.hp, h4.c.kept hO6.out (fun k hk e => hne k (h3.c.lt k hk) e), h4.ap, h4.t.kept hO6.out (fun k hk e => hne k (h3.t.lt k hk) e), h4.b, h4.on.trans hO6.out (fun k hk e => ?_)⟩
        have h5 := hY'.out
        have h6 := h3.on.size
        omega)
      obtain ⟨F, hF⟩ : ∃ F, F = t1 + mm := ⟨_, rfl⟩
      rw [← hF] at hY6
      have hF' := Lib.hid hF
      have hF9 : F ≤ 2000000000000 := by have := hmm.out; omega
      have z0 := row_cell hY6.out (i := 0) rfl
      have z1 := row_cell hY6.out (i := 1) rfl
      have z2 := row_cell hY6.out (i := 2) rfl
      have hsn9 : sn ≤ 4200000000 := by
        have h1 := hSl'.out
        have h2 := hsn'.out
        have h3 := tot_bound hcs'.out
        have h4 := hll'.out
        omega
      have hWt := Lib.hid (show Win W6 71 3 (.slice Pt sn cpt) ht sn (strC S) from by have := hM6.out.t; rw [← hsn'.out] at this; exact this)
      have hYht : ∀ k, ht = some k → Y ≠ k := fun k hk e => hYne'.out k (hM3'.out.t.lt k hk) e.symm
      have hYht' := Lib.hid hYht
      clear hF hW6 hYht hO6 hM4' hO5' hW5' y5' hE1
      go_wp2_with (at_builtin; (refine wpList_append_win rfl _ _ 68 rfl 71 (Value.agg #[.int .i64 0, .int .i64 0, .int .i64 0]) 3 24 Try.underlying68 info71 rfl (by decide) rfl (hWt.out.kept ((Only.refl (fun _ => False) _).alloc _) (fun _ _ h => h)) _ 1 1 rfl (Str.cells ⟨p, t1, F⟩) rfl (fun _ => ⟨_, rfl, row_three (heap_new_at _ _ (by simp))⟩) (str_one _) (by unfold maxLen; omega) (by omega) ?_; intro v7 W7 h7 hW7 hO7 hh7; obtain ⟨P7, c7, rfl, -, -⟩ := hW7.out.form; have y7 := hO7.out.heap (heap_kept_alloc hY6.out (.cells (Str.cells ⟨p, t1, F⟩).toArray 71)) (fun e => hYht'.out Y e.symm rfl); have k0 := row_cell y7 (i := 0) rfl; have k1 := row_cell y7 (i := 1) rfl; have k2 := row_cell y7 (i := 2) rfl; have y7' := Lib.hid y7; clear y7))
      have hM7 := Lib.hid (show Mem w W7 r T es2 o1 (.slice P1 m1 cp1) hc1 Cm1 (.slice P7 (sn + 1) c7) h7 (S ++ [⟨p, t1, F⟩]) from
        (hM6.out.new ((Only.refl (fun _ => False) W6).alloc _)).tell (by rw [← hsn'.out]; exact hW7.out) hO7.out hh7.out)
      have hes2 : es2.length ≤ 3900 := by
        have h1 := hp2'.out.length_eq
        simp at h1
        omega
      have qgo := Lib.hid (goOn_any (p := p) (m := mm) (a := (t1 : Int)) (b := (F : Int)) hM7.out.rt hM7.out.hp hes2 hpT'.out (by have := hF'.out; omega) (by rw [hCT'.out]; exact hmm.out.2.1) (by rw [hCT'.out]; exact hC9) (by omega) (by omega))
      have hYfq : ∀ k, fq r o1 T.b k → Y ≠ k := fun k hk e => hYne'.out k (hM3'.out.rt.lt k hk) e.symm
      have hYfq' := Lib.hid hYfq
      clear hM6 hO7 hh7 hW7 hes2 hYfq k0 k1 k2 hWt hY6 z0 z1 z2
      refine qgo.out.mono ?_
      intro e W8 hgo
      have k2 := (hgo.2.choose_spec.choose_spec.2.2.2.2).cell (row_cell y7'.out (i := 2) rfl) (fun hf => hYfq'.out Y hf rfl)
      obtain ⟨rfl, o3, es3, hp3, hM8⟩ := hM7.out.go hgo
      have hres := Lib.hid (show Frm w W8 l r (.slice P1 m1 cp1) (.slice P7 (sn + 1) c7) F ∧ tot l F < gk from by
        have hxp := hp'.out
        rw [hxp] at hp3
        have hg := hI2.out.goes hp2'.out hmin.out hmm.out.1 (by rw [← hxp, ← hC'.out]; exact hmm.out.2.1) hmm.out.2.2 hp3
        rw [← hxp, ← hF'.out] at hg
        obtain ⟨g1, g2⟩ := hg
        have h3 := hTb2.out
        have h4 := hG'.out
        have h5 := hSl'.out
        have h6 := hmm.out.1
        refine ⟨⟨spend T p mm, es3, o3, hc1, Cm1, h7, S ++ [⟨p, t1, F⟩], hM8, g1, ?_⟩, by omega⟩
        rw [List.length_append]
        show S.length + 1 + tot l F ≤ tot l 0
        omega)
      clear hgo hM8 hp3 hM7 qgo
      go_wp2_with fail
      go_roundg (tot l F)
      case measure => exact hres.out.2
      case rel => exact ⟨F, rfl, rfl, Lib.hid hres.out.1⟩
end Edf
end Go.Proofs.Ytkolbaadakhciaa
