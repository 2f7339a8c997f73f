/- floating: the law's few, one, fixed. Written by mkf30.py. -/
import Derived.Test.YtlbinlhaejhobaaGreatDoorF29
import Derived.Test.YtlbinlhaejhobaaGreatDoorFal
import Derived.Test.YtlbinlhaejhobaaGreatDoorRad
namespace Go.Proofs.YtlbinlhaejhobaaGreatDoor
namespace Twn
open Go Go.RowKit Krn Asn Pre Adm Sct
open Bch (GrowU orU)

set_option maxRecDepth 100000 in
set_option maxHeartbeats 8000000 in
theorem few30_any {w : World} {c : ConfV} {d : ConfL} {pl : Tks} (hC : ConfIn w c d pl) :
    Calls Tryz.prog 33 #[c.val] w (FewEnd c pl w) := by
  obtain ⟨q, hq⟩ : ∃ q, q = w.heap.size := ⟨_, rfl⟩
  obtain ⟨W2, hW2⟩ : ∃ W2, W2 = w.alloc (.cells c.cells.toArray 27) := ⟨_, rfl⟩
  have hO2 : Only (fun _ => False) w W2 := by rw [hW2]; exact (Only.refl _ w).alloc _
  have b0 : W2.heap[q]? = some (.cells c.cells.toArray 27 (0, 0)) := by rw [hW2]; exact heap_new_at _ _ hq.symm
  have hs2 : W2.heap.size = q + 1 := by rw [hW2, hq]; simp
  have hq' := Lib.hid hq
  have hcy := Lib.hid (fun W (ho : Only (fun _ => False) W2 W) => cyv_of (ho.heap b0 (fun h => h)))
  obtain ⟨cv, hcv⟩ : ∃ cv, cv = c.val := ⟨_, rfl⟩
  obtain ⟨F, hF⟩ : ∃ F, F = fewB c pl.ts := ⟨_, rfl⟩
  have kfe := Lib.hid (show Calls Tryz.prog 11 #[cv] W2 (GrowB F W2) from by rw [hcv, hF]; exact (hC.new hO2).few)
  have ksh := Lib.hid (fun (h : F = true) W (ho : Only (fun _ => False) W2 W) => show Calls Tryz.prog 16 #[cv] W (ShEnd pl W) from by
    rw [hcv]
    exact rshort_any (hC.new (hO2.trans' ho)) (by have := (hC.small (by rw [← hF]; exact h)).2.2.2.1; omega))
  obtain ⟨Z, hZ⟩ : ∃ Z, Z = FewEnd c pl w := ⟨_, rfl⟩
  rw [← hZ]
  have hno := Lib.hid (fun W (ho : Only (fun _ => False) W2 W) => show Z (.returned (.bool false)) W from by rw [hZ]; exact ⟨false, rfl, fun h => (by cases h), hO2.trans' ho⟩)
  have hyes := Lib.hid (fun (h : F = true) W (ho : Only (fun _ => False) W2 W) b (hb : b = true → ∀ (i : Nat) t, pl.ts[i]? = some t → t.pe ≤ 1500) => show Z (.returned (.bool b)) W from by rw [hZ]; exact ⟨b, rfl, fun e => ⟨by rw [← hF]; exact h, hb e⟩, hO2.trans' ho⟩)
  rw [← hcv]
  unfold ConfV.val at hcv
  subst hcv
  unfold CYv at hcy
  unfold ConfV.cells at hW2
  have hW2' := Lib.hid hW2
  have hs2' := Lib.hid hs2
  clear hC hq hO2 b0 hW2 hs2 hF hZ
  obtain ⟨c0, wy, h, mi, ⟨mA, mn, mc⟩, g, ⟨cA, cn, cc⟩, ⟨eA, en, ec⟩, ⟨tA, tn, tc⟩, ⟨lA, ln, lc⟩⟩ := c
  dsimp only at *
  obtain ⟨d0, d1, d2, d3, d4, d5, d6, d7, d8, d9, dl⟩ := hcy.out W2 (Only.refl _ _)
  go_enter Tryz.func33, Tryz.ntmps33
  go_upto_region 1 with fail
  rw [← hq'.out]
  rw [← hW2'.out]
  go_wp2_with fail
  refine kfe.out.mono ?_
  rintro e w3 ⟨rfl, ho⟩
  have hO3 := Lib.hid ho
  clear ho d0 d1 d2 d3 d4 d5 d6 d7 d8 d9 dl
  obtain ⟨d0, d1, d2, d3, d4, d5, d6, d7, d8, d9, dl⟩ := hcy.out w3 hO3.out
  cases F with
  | false =>
    have hf := Lib.hid (hno.out w3 hO3.out)
    go_wp2
    exact hf.out
  | true =>
    have ks := Lib.hid (ksh.out rfl w3 hO3.out)
    have hy := Lib.hid (hyes.out rfl)
    clear ksh hyes kfe
    by_cases hg1 : g < 1000
    · by_cases hg2 : -1000 < g
      · go_wp2_with fail
        refine ks.out.mono ?_
        rintro e w4 ⟨b, rfl, hb, ho⟩
        have hf := Lib.hid (hy.out w4 (hO3.out.trans' ho) b hb)
        clear ho hb hg1 hg2 d0 d1 d2 d3 d4 d5 d6 d7 d8 d9 dl
        go_wp2
        exact hf.out
      · have hf := Lib.hid (hno.out w3 hO3.out)
        go_wp2
        exact hf.out
    · have hf := Lib.hid (hno.out w3 hO3.out)
      go_wp2
      exact hf.out

def pO : List Opn := [⟨3, 0, 0⟩, ⟨1, 5, 0⟩, ⟨4, 0, 0⟩]
def pP (X : Nat) (fl : Int) : Tks := [(oT X 1 10 fl 3, pO)]
theorem p_in {w : World} {X : Nat} (h1 : w.heap[X]? = some (.cells [.int .i64 3, .int .i64 0, .int .i64 0, .int .i64 1, .int .i64 5, .int .i64 0, .int .i64 4, .int .i64 0, .int .i64 0].toArray 90 (0, 0))) (h3 : w.heap[X + 1]? = some (.cells (oT X 1 10 0 3).cells.toArray 49 (0, 0))) : ConfIn w (oC X) oD (pP X 0) := by
  have hA : OpnRow w (some ⟨X, 0, none⟩) pO := fun k o ho => by
    match k, ho with
    | 0, ho => cases ho; exact ⟨X, 0, rfl, row_lt h1, row_cell h1 (i := 0) rfl, row_cell h1 (i := 1) rfl, row_cell h1 (i := 2) rfl⟩
    | 1, ho => cases ho; exact ⟨X, 0, rfl, row_lt h1, row_cell h1 (i := 3) rfl, row_cell h1 (i := 4) rfl, row_cell h1 (i := 5) rfl⟩
    | 2, ho => cases ho; exact ⟨X, 0, rfl, row_lt h1, row_cell h1 (i := 6) rfl, row_cell h1 (i := 7) rfl, row_cell h1 (i := 8) rfl⟩
    | k + 3, ho => simp [pO] at ho
  refine ⟨o_none _, o_none _, o_none _, o_none _, ⟨rfl, Nat.le_refl _, fun k t ht => ?_⟩, fun i t l ht => ?_, (by show 1 ≤ 9223372036854775807; omega)⟩
  · match k, ht with
    | 0, ht => cases ht; exact ⟨X + 1, 0, rfl, row_lt h3, row_cell h3 (i := 0) rfl, row_cell h3 (i := 1) rfl, row_cell h3 (i := 2) rfl, row_cell h3 (i := 3) rfl, row_cell h3 (i := 4) rfl, row_cell h3 (i := 5) rfl, row_cell h3 (i := 6) rfl⟩
    | k + 1, ht => simp [pP, Tks.ts] at ht
  · match i, ht with
    | 0, ht => cases ht; exact ⟨hA, rfl, Nat.le_refl _⟩
    | k + 1, ht => simp [pP] at ht
theorem p_cf0 {w : World} {X : Nat} (hw : Words w) (h : ConfIn w (oC X) oD (pP X 0)) : Cf0 w (oC X) oD (pP X 0) := few_cf0 hw h rfl
theorem p_win (X : Nat) (fl : Int) : winI (oC X) oD (pP X fl) 0 = 7 := by
  unfold winI
  rw [show dlyI (oC X) oD (pP X fl) 0 = 0 from rfl, show ldL (oC X) (pP X fl) (prio (pP X fl).ts 0) = [(7, 10)] from rfl]
  refine (Bch.IsWin.uniq (.inr ⟨by omega, by omega, by decide, fun x h1 h2 => ?_⟩) (Bch.win_is _ _)).symm
  have : x = 1 ∨ x = 2 ∨ x = 3 ∨ x = 4 ∨ x = 5 ∨ x = 6 := by omega
  rcases this with rfl | rfl | rfl | rfl | rfl | rfl <;> decide
theorem p_late (X : Nat) (fl : Int) : lateB (oC X) oD (pP X fl) 1 = false := by
  show (lateI (oC X) oD (pP X fl) 0 || false) = _
  rw [Bool.or_false]
  unfold lateI
  rw [show (lineI (oC X) oD (pP X fl) 0).re = orU (winI (oC X) oD (pP X fl) 0) from rfl, p_win]
  show decide (ofU 10 < 7) = false
  decide
theorem p_chg (X : Nat) (x : Int) : chg (flF 0 x) (pP X 0) = pP X x := rfl
theorem p_fine (X : Nat) : Fin0.Fine (oC X) oD (chg (flF 0 0) (pP X 0)) := Fin0.of_zero (show confZ (oC X) oD (pP X 0) = 0 from rfl)
theorem p_pass (X : Nat) {x : Int} (h : 0 ≤ x ∧ x ≤ 1048576) : passF (oC X) oD (pP X 0) 0 x = true := by
  have hz : confZ (oC X) oD (pP X x) = 0 := zero_of (fine_fl (p_fine X) h)
  unfold passF admB
  rw [p_chg, hz, show (oC X).ta.n = 1 from rfl, p_late]
  rfl
theorem p_mo {X : Nat} {m : Int} {ok : Bool} (h : Mo (oC X) oD (pP X 0) 0 m ok) : m = 1048576 ∧ ok = true := by
  rcases h with ⟨-, -, h⟩ | ⟨rfl, h1, h2, -, h4⟩
  · rw [p_pass X (by omega)] at h; cases h
  · refine ⟨?_, rfl⟩
    by_cases e : m < 1048576
    · have := h4 e
      rw [p_pass X (by omega)] at this
      cases this
    · omega
def One30 (w : World) (e : Ending) (w' : World) : Prop := ∃ X, e = .returned (.agg #[.int .i64 1, .int .i64 1, .int .i64 1, .int .i64 5, .slice none 0 0, .int .i64 0, .slice none 0 0, .slice none 0 0, .slice (some ⟨X + 1, 0, none⟩) 1 1, .slice none 0 0]) ∧ w.heap.size ≤ X ∧ w'.heap[X]? = some (.cells [.int .i64 3, .int .i64 0, .int .i64 0, .int .i64 1, .int .i64 5, .int .i64 0, .int .i64 4, .int .i64 0, .int .i64 0].toArray 90 (0, 0)) ∧ w'.heap[X + 1]? = some (.cells (oT X 1 10 0 3).cells.toArray 49 (0, 0)) ∧ Only (fun _ => False) w w'
set_option maxHeartbeats 2000000 in
theorem one30_any (w : World) : Calls Tryz.prog 62 #[] w (One30 w) := by
  go_enter Tryz.func62, Tryz.ntmps62
  go_wp2
  generalize hW : ((w.alloc (.cells #[.int .i64 1, .int .i64 1, .int .i64 1, .int .i64 5, .slice none 0 0, .int .i64 0, .slice none 0 0, .slice none 0 0, .slice (some ⟨w.heap.size + 1 + 1, 0, none⟩) 1 1, .slice none 0 0] 27)).alloc _).alloc _ = W9
  have hO : Only (fun _ => False) w W9 := by rw [← hW]; exact (((Only.refl _ w).alloc _).alloc _).alloc _
  have b0 : W9.heap[w.heap.size]? = some (.cells [.int .i64 1, .int .i64 1, .int .i64 1, .int .i64 5, .slice none 0 0, .int .i64 0, .slice none 0 0, .slice none 0 0, .slice (some ⟨w.heap.size + 1 + 1, 0, none⟩) 1 1, .slice none 0 0].toArray 27 (0, 0)) := by
    rw [← hW]; exact heap_kept_alloc (heap_kept_alloc (heap_new_at _ _ rfl) _) _
  have h1 : W9.heap[w.heap.size + 1]? = some (.cells [.int .i64 3, .int .i64 0, .int .i64 0, .int .i64 1, .int .i64 5, .int .i64 0, .int .i64 4, .int .i64 0, .int .i64 0].toArray 90 (0, 0)) := by
    rw [← hW]; exact heap_kept_alloc (heap_new_at _ _ (by simp)) _
  have h3 : W9.heap[w.heap.size + 1 + 1]? = some (.cells (oT (w.heap.size + 1) 1 10 0 3).cells.toArray 49 (0, 0)) := by
    rw [← hW]; exact heap_new_at _ _ (by simp)
  clear hW
  have c0 := row_cell b0 (i := 0) rfl
  have c1 := row_cell b0 (i := 1) rfl
  have c2 := row_cell b0 (i := 2) rfl
  have c3 := row_cell b0 (i := 3) rfl
  have c4 := row_cell b0 (i := 4) rfl
  have c5 := row_cell b0 (i := 5) rfl
  have c6 := row_cell b0 (i := 6) rfl
  have c7 := row_cell b0 (i := 7) rfl
  have c8 := row_cell b0 (i := 8) rfl
  have c9 := row_cell b0 (i := 9) rfl
  exact bodyPost_ret (v := .agg #[.int .i64 1, .int .i64 1, .int .i64 1, .int .i64 5, .slice none 0 0, .int .i64 0, .slice none 0 0, .slice none 0 0, .slice (some ⟨w.heap.size + 1 + 1, 0, none⟩) 1 1, .slice none 0 0]) (by simp [results, Tryz.results62, go_sem, c0, c1, c2, c3, c4, c5, c6, c7, c8, c9]) rfl ⟨w.heap.size + 1, rfl, by omega, h1, h3, hO⟩
theorem p_most {w : World} {X : Nat} (hw : Words w) (h : ConfIn w (oC X) oD (pP X 0)) : Calls Tryz.prog 34 #[oV X, .int .i64 0] w (fun e w' => e = .returned (.tuple #[.int .i64 1048576, .bool true]) ∧ Only (fun _ => False) w w') := by
  refine (most_any (p_cf0 hw h) (i := 0) (by show 0 < 1; omega)).mono ?_
  rintro e w' ⟨m, ok, rfl, hm, ho⟩
  obtain ⟨rfl, rfl⟩ := p_mo hm
  exact ⟨rfl, ho⟩
set_option maxRecDepth 100000 in
set_option maxHeartbeats 8000000 in
theorem mnone_any (w : World) (c : ConfV) {z : Int} (hz : hasI c.ta.n z = false) :
    Calls Tryz.prog 34 #[c.val, .int .i64 z] w (fun e w' => e = .returned (.tuple #[.int .i64 0, .bool false]) ∧ Only (fun _ => False) w w') := by
  obtain ⟨q, hq⟩ : ∃ q, q = w.heap.size := ⟨_, rfl⟩
  obtain ⟨W2, hW2⟩ : ∃ W2, W2 = (w.alloc (.cells c.cells.toArray 27)).alloc (.cells #[.int .i64 z] 3) := ⟨_, rfl⟩
  have hO2 : Only (fun _ => False) w W2 := by rw [hW2]; exact ((Only.refl _ w).alloc _).alloc _
  have b0 : W2.heap[q]? = some (.cells c.cells.toArray 27 (0, 0)) := by rw [hW2]; exact heap_kept_alloc (heap_new_at _ _ hq.symm) _
  have b1 : W2.heap[q + 1]? = some (.cells [Value.int .i64 z].toArray 3 (0, 0)) := by rw [hW2]; exact heap_new_at _ _ (by simp [hq])
  have hcy := Lib.hid (cyv_of b0)
  have e0 := row_cell b1 (i := 0) rfl
  have el := row_lt b1
  obtain ⟨cv, hcv⟩ : ∃ cv, cv = c.val := ⟨_, rfl⟩
  have kha := Lib.hid (show Calls Tryz.prog 63 #[cv, .int .i64 z] W2 (GrowB false W2) from by rw [hcv, ← hz]; exact fhas_any W2 c z)
  obtain ⟨Z, hZ⟩ : ∃ Z, Z = (fun (e : Ending) w' => e = .returned (.tuple #[.int .i64 0, .bool false]) ∧ Only (fun _ => False) w w') := ⟨_, rfl⟩
  rw [← hZ]
  have hfin := Lib.hid (fun W (ho : Only (fun _ => False) W2 W) => show Z (.returned (.tuple #[.int .i64 0, .bool false])) W from by rw [hZ]; exact ⟨rfl, hO2.trans' ho⟩)
  rw [← hcv]
  unfold ConfV.val at hcv
  subst hcv
  unfold CYv at hcy
  unfold ConfV.cells at hW2
  have hq' := Lib.hid hq
  have hW2' := Lib.hid hW2
  clear hz hq hO2 b0 b1 hW2 hZ
  obtain ⟨c0, wy, h, mi, ⟨mA, mn, mc⟩, g, ⟨cA, cn, cc⟩, ⟨eA, en, ec⟩, ⟨tA, tn, tc⟩, ⟨lA, ln, lc⟩⟩ := c
  dsimp only at *
  obtain ⟨d0, d1, d2, d3, d4, d5, d6, d7, d8, d9, dl⟩ := hcy.out
  go_enter Tryz.func34, Tryz.ntmps34
  go_upto_region 1 with fail
  rw [← hq'.out]
  rw [← hW2'.out]
  go_wp2_with fail
  refine kha.out.mono ?_
  rintro e w3 ⟨rfl, ho⟩
  have hf := Lib.hid (hfin.out w3 ho)
  clear ho e0 el d0 d1 d2 d3 d4 d5 d6 d7 d8 d9 dl kha
  go_wp2
  exact hf.out
theorem p_none (w : World) (X : Nat) : Calls Tryz.prog 34 #[oV X, .int .i64 1] w (fun e w' => e = .returned (.tuple #[.int .i64 0, .bool false]) ∧ Only (fun _ => False) w w') := mnone_any w (oC X) (z := 1) (by show hasI 1 1 = false; decide)
theorem p_all {w : World} {X : Nat} (hw : Words w) (h : ConfIn w (oC X) oD (pP X 0)) : Calls Tryz.prog 36 #[oV X] w (fun e w' => ∃ A cap, e = .returned (.tuple #[.slice A 1 cap, .bool true]) ∧ Only (fun _ => False) w w') := by
  refine (fall_any (p_cf0 hw h)).mono ?_
  rintro e w' ⟨ho, ⟨-, i, hi, hm⟩ | ⟨A, cap, hh, B, rfl, -, -, -⟩⟩
  · have : i < 1 := hi
    obtain rfl : i = 0 := by omega
    have := (p_mo hm).2
    cases this
  · exact ⟨A, cap, rfl, ho⟩
theorem p_with {w : World} {X : Nat} (hw : Words w) (h : ConfIn w (oC X) oD (pP X 0)) : Calls Tryz.prog 39 #[oV X, .int .i64 0, .int .i64 7] w (fun e w' => ∃ (x : ConfV) (g off : Nat), e = .returned (.agg #[.int .i64 x.s, .int .i64 x.wy, .int .i64 x.h, .int .i64 x.mi, .slice x.mb.A x.mb.n x.mb.cap, .int .i64 x.g, .slice x.cn.A x.cn.n x.cn.cap, .slice x.ce.A x.ce.n x.ce.cap, .slice (some ⟨g, off, none⟩) 1 x.ta.cap, .slice x.li.A x.li.n x.li.cap]) ∧ g < w'.heap.size ∧ w'.cell? ⟨g, off + 5, none⟩ = some (.int .i64 7) ∧ Only (fun _ => False) w w') := by
  refine (fwith_any (p_cf0 hw h) 0 7).mono ?_
  rintro e w' ⟨c', us, tb, tp, rfl, hF⟩
  have hn : c'.ta.n = 1 := hF.len
  have hI := (hF.conf h).t
  obtain ⟨o, ho⟩ := hF.tw.same 0 (oT X 1 10 0 3) pO rfl
  obtain ⟨b, off, q1, q2, q3⟩ := hI.at_ 0 _ (ts_some ho)
  have q5 := q3.c5
  rw [Nat.zero_mul, Nat.add_zero] at q5
  refine ⟨c', b, off, ?_, q2, q5, hF.tw.only⟩
  unfold ConfV.val
  rw [q1, hn]
theorem p_fix {w : World} {X : Nat} (h : ConfIn w (oC X) oD (pP X 0)) : Calls Tryz.prog 37 #[oV X, .int .i64 0] w (GrowI 7 w) := by
  refine fix_any (c := oC X) (i := 0) (fun W ho => ?_)
  have h1 := longest_any (h.new ho) (by show 0 ≤ 4096; omega) (i := 0) (t := oT X 1 10 0 3) (l := pO) rfl (by decide) (by show 1 ≤ 1000000; omega) 64
  rwa [show lonZ (oT X 1 10 0 3).th (ceZ oD.ce) (oC X).ce.n pO (oC X).h (oC X).mi 64 = 7 from by show lonZ 1 (ceZ []) 0 pO 1 5 64 = 7; decide] at h1
set_option maxRecDepth 100000 in
set_option maxHeartbeats 8000000 in
theorem fixed30_any {w : World} (hw : Words w) : Calls Tryz.prog 32 #[] w (GrowB true w) := by
  obtain ⟨Z, hZ⟩ : ∃ Z, Z = GrowB true w := ⟨_, rfl⟩
  rw [← hZ]
  have hfin := Lib.hid (fun W (ho : Only (fun _ => False) w W) => show Z (.returned (.bool true)) W from by rw [hZ]; exact ⟨rfl, ho⟩)
  have hwd := Lib.hid (fun W (ho : Only (fun _ => False) w W) => hw.new ho)
  clear hZ hw
  go_enter Tryz.func32, Tryz.ntmps32
  go_wp2_with fail
  refine (one30_any w).mono ?_
  rintro e w1 ⟨X1, rfl, -, ho3, hp3, ho⟩
  have hO1 := Lib.hid (ho)
  have hI := Lib.hid (p_in ho3 hp3)
  clear ho ho3 hp3
  have qa := Lib.hid (p_most (hwd.out w1 hO1.out) hI.out)
  unfold oV at qa
  clear hI
  go_wp2_with fail
  refine qa.out.mono ?_
  rintro e w2 ⟨rfl, ho⟩
  have hO2 := Lib.hid (hO1.out.trans' ho)
  clear ho qa
  go_wp2_with fail
  refine (one30_any w2).mono ?_
  rintro e w3 ⟨X3, rfl, -, ho3, hp3, ho⟩
  have hO3 := Lib.hid (hO2.out.trans' ho)
  have hI := Lib.hid (p_in ho3 hp3)
  clear ho ho3 hp3
  have qa := Lib.hid (p_none w3 X3)
  unfold oV at qa
  clear hI
  go_wp2_with fail
  refine qa.out.mono ?_
  rintro e w4 ⟨rfl, ho⟩
  have hO4 := Lib.hid (hO3.out.trans' ho)
  clear ho qa
  go_wp2_with fail
  refine (one30_any w4).mono ?_
  rintro e w5 ⟨X5, rfl, -, ho3, hp3, ho⟩
  have hO5 := Lib.hid (hO4.out.trans' ho)
  have hI := Lib.hid (p_in ho3 hp3)
  clear ho ho3 hp3
  have qa := Lib.hid (p_all (hwd.out w5 hO5.out) hI.out)
  unfold oV at qa
  clear hI
  go_wp2_with fail
  refine qa.out.mono ?_
  rintro e w6 ⟨A1, cap1, rfl, ho⟩
  have hO6 := Lib.hid (hO5.out.trans' ho)
  clear ho qa
  go_wp2_with fail
  refine (one30_any w6).mono ?_
  rintro e w7 ⟨X7, rfl, -, ho3, hp3, ho⟩
  have hO7 := Lib.hid (hO6.out.trans' ho)
  have hI := Lib.hid (p_in ho3 hp3)
  clear ho ho3 hp3
  have qa := Lib.hid (p_with (hwd.out w7 hO7.out) hI.out)
  unfold oV at qa
  clear hI
  go_wp2_with fail
  refine qa.out.mono ?_
  rintro e w8 ⟨x, g7, off7, rfl, hg7, hc7, ho⟩
  have hO8 := Lib.hid (hO7.out.trans' ho)
  clear ho qa
  have hfd : Sem.run Tryz.prog (Instr.field 27 (.agg #[.int .i64 x.s, .int .i64 x.wy, .int .i64 x.h, .int .i64 x.mi, .slice x.mb.A x.mb.n x.mb.cap, .int .i64 x.g, .slice x.cn.A x.cn.n x.cn.cap, .slice x.ce.A x.ce.n x.ce.cap, .slice (some ⟨g7, off7, none⟩) 1 x.ta.cap, .slice x.li.A x.li.n x.li.cap]) 5) w8 = .ok (.slice (some ⟨g7, off7, none⟩) 1 x.ta.cap) w8 := by kernel_rfl
  go_wp2_with fail
  refine (one30_any w8).mono ?_
  rintro e w9 ⟨X9, rfl, -, ho3, hp3, ho⟩
  have hO9 := Lib.hid (hO8.out.trans' ho)
  have hI := Lib.hid (p_in ho3 hp3)
  clear ho ho3 hp3
  have qa := Lib.hid (p_fix hI.out)
  unfold oV at qa
  clear hI
  go_wp2_with fail
  refine qa.out.mono ?_
  rintro e w10 ⟨rfl, ho⟩
  have hO10 := Lib.hid (hO9.out.trans' ho)
  clear ho qa
  have hf := Lib.hid (hfin.out w10 hO10.out)
  go_wp2
  exact hf.out
end Twn
end Go.Proofs.YtlbinlhaejhobaaGreatDoor
