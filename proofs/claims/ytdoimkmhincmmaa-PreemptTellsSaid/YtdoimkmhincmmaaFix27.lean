/- The fixed calls of layer 27's laws. -/
import Derived.Test.YtdoimkmhincmmaaPre6
namespace Go.Proofs.Ytdoimkmhincmmaa
namespace Pre
open Go Go.RowKit Rca Sct Lin Lck Cst Rld
open Bch (U sA sC sA_le sC_le GrowU)

def twA (X : Nat) : TaskV := ⟨1, 1, 50, 0, 0, 3, ⟨some ⟨X, 0, none⟩, 3, 3⟩⟩
def twB (X : Nat) : TaskV := ⟨2, 2, 10, 0, 0, 0, ⟨some ⟨X + 1, 0, none⟩, 1, 1⟩⟩
def twC (X : Nat) : ConfV := ⟨1, 1, 1, 5, ⟨none, 0, 0⟩, 0, ⟨none, 0, 0⟩, ⟨none, 0, 0⟩, ⟨some ⟨X + 2, 0, none⟩, 2, 2⟩, ⟨none, 0, 0⟩⟩
def twO : List Opn := [⟨1, 20, 0⟩, ⟨3, 0, 0⟩, ⟨4, 0, 0⟩]
def twQ : List Opn := [⟨1, 2, 0⟩]
def twP (X : Nat) : Tks := [(twA X, twO), (twB X, twQ)]
def twD : ConfL := ⟨[], [], [], []⟩
def twOps : List Value := [.int .i64 1, .int .i64 20, .int .i64 0, .int .i64 3, .int .i64 0, .int .i64 0, .int .i64 4, .int .i64 0, .int .i64 0]
theorem tw_none (w : World) : IntsAt w ⟨none, 0, 0⟩ [] := ⟨rfl, Nat.le_refl _, fun k z hz => by simp at hz⟩
theorem two_in {w : World} {X : Nat} (h1 : w.heap[X]? = some (.cells twOps.toArray 48 (0, 0))) (h2 : w.heap[X + 1]? = some (.cells [.int .i64 1, .int .i64 2, .int .i64 0].toArray 48 (0, 0))) (h3 : w.heap[X + 2]? = some (.cells ((twA X).cells ++ (twB X).cells).toArray 38 (0, 0))) : ConfIn w (twC X) twD (twP X) := by
  have hA : OpnRow w (some ⟨X, 0, none⟩) twO := fun k o ho => by
    match k, ho with
    | 0, ho => cases ho; exact ⟨X, 0, rfl, row_lt h1, row_cell h1 (i := 0) rfl, row_cell h1 (i := 1) rfl, row_cell h1 (i := 2) rfl⟩
    | 1, ho => cases ho; exact ⟨X, 0, rfl, row_lt h1, row_cell h1 (i := 3) rfl, row_cell h1 (i := 4) rfl, row_cell h1 (i := 5) rfl⟩
    | 2, ho => cases ho; exact ⟨X, 0, rfl, row_lt h1, row_cell h1 (i := 6) rfl, row_cell h1 (i := 7) rfl, row_cell h1 (i := 8) rfl⟩
    | k + 3, ho => simp [twO] at ho
  have hB : OpnRow w (some ⟨X + 1, 0, none⟩) twQ := fun k o ho => by
    match k, ho with
    | 0, ho => cases ho; exact ⟨X + 1, 0, rfl, row_lt h2, row_cell h2 (i := 0) rfl, row_cell h2 (i := 1) rfl, row_cell h2 (i := 2) rfl⟩
    | k + 1, ho => simp [twQ] at ho
  refine ⟨tw_none _, tw_none _, tw_none _, tw_none _, ⟨rfl, Nat.le_refl _, fun k t ht => ?_⟩, fun i t l ht => ?_, (by show 2 ≤ 9223372036854775807; omega)⟩
  · match k, ht with
    | 0, ht => cases ht; exact ⟨X + 2, 0, rfl, row_lt h3, row_cell h3 (i := 0) rfl, row_cell h3 (i := 1) rfl, row_cell h3 (i := 2) rfl, row_cell h3 (i := 3) rfl, row_cell h3 (i := 4) rfl, row_cell h3 (i := 5) rfl, row_cell h3 (i := 6) rfl⟩
    | 1, ht => cases ht; exact ⟨X + 2, 0, rfl, row_lt h3, row_cell h3 (i := 7) rfl, row_cell h3 (i := 8) rfl, row_cell h3 (i := 9) rfl, row_cell h3 (i := 10) rfl, row_cell h3 (i := 11) rfl, row_cell h3 (i := 12) rfl, row_cell h3 (i := 13) rfl⟩
    | k + 2, ht => simp [twP, Tks.ts] at ht
  · match i, ht with
    | 0, ht => cases ht; exact ⟨hA, rfl, Nat.le_refl _⟩
    | 1, ht => cases ht; exact ⟨hB, rfl, Nat.le_refl _⟩
    | k + 2, ht => simp [twP] at ht
def twV (X : Nat) : Value := .agg #[.int .i64 1, .int .i64 1, .int .i64 1, .int .i64 5, .slice none 0 0, .int .i64 0, .slice none 0 0, .slice none 0 0, .slice (some ⟨X + 2, 0, none⟩) 2 2, .slice none 0 0]
def Two2 (w : World) (e : Ending) (w' : World) : Prop := ∃ X, e = .returned (.agg #[.int .i64 1, .int .i64 1, .int .i64 1, .int .i64 5, .slice none 0 0, .int .i64 0, .slice none 0 0, .slice none 0 0, .slice (some ⟨X + 2, 0, none⟩) 2 2, .slice none 0 0]) ∧ ConfIn w' (twC X) twD (twP X) ∧ Only (fun _ => False) w w'
set_option maxHeartbeats 2000000 in
theorem two_any (w : World) : Calls Try.prog 24 #[] w (Two2 w) := by
  go_enter Try.func24, Try.ntmps24
  go_wp2
  generalize hW : (((w.alloc (.cells #[.int .i64 1, .int .i64 1, .int .i64 1, .int .i64 5, .slice none 0 0, .int .i64 0, .slice none 0 0, .slice none 0 0, .slice (some ⟨w.heap.size + 1 + 1 + 1, 0, none⟩) 2 2, .slice none 0 0] 27)).alloc _).alloc _).alloc _ = W9
  have hO : Only (fun _ => False) w W9 := by rw [← hW]; exact ((((Only.refl _ w).alloc _).alloc _).alloc _).alloc _
  have b0 : W9.heap[w.heap.size]? = some (.cells [.int .i64 1, .int .i64 1, .int .i64 1, .int .i64 5, .slice none 0 0, .int .i64 0, .slice none 0 0, .slice none 0 0, .slice (some ⟨w.heap.size + 1 + 2, 0, none⟩) 2 2, .slice none 0 0].toArray 27 (0, 0)) := by
    rw [← hW]; exact heap_kept_alloc (heap_kept_alloc (heap_kept_alloc (heap_new_at _ _ rfl) _) _) _
  have h1 : W9.heap[w.heap.size + 1]? = some (.cells twOps.toArray 48 (0, 0)) := by
    rw [← hW]; exact heap_kept_alloc (heap_kept_alloc (heap_new_at _ _ (by simp)) _) _
  have h2 : W9.heap[w.heap.size + 1 + 1]? = some (.cells [.int .i64 1, .int .i64 2, .int .i64 0].toArray 48 (0, 0)) := by
    rw [← hW]; exact heap_kept_alloc (heap_new_at _ _ (by simp)) _
  have h3 : W9.heap[w.heap.size + 1 + 2]? = some (.cells ((twA (w.heap.size + 1)).cells ++ (twB (w.heap.size + 1)).cells).toArray 38 (0, 0)) := by
    rw [← hW]; exact heap_new_at _ _ (by simp)
  clear hW
  have c0 := row_cell b0 (i := 0) rfl
  have c1 := row_cell b0 (i := 1) rfl
  have c2 := row_cell b0 (i := 2) rfl
  have c3 := row_cell b0 (i := 3) rfl
  have c4 := row_cell b0 (i := 4) rfl
  have c5 := row_cell b0 (i := 5) rfl
  have c6 := row_cell b0 (i := 6) rfl
  have c7 := row_cell b0 (i := 7) rfl
  have c8 := row_cell b0 (i := 8) rfl
  have c9 := row_cell b0 (i := 9) rfl
  exact bodyPost_ret (v := .agg #[.int .i64 1, .int .i64 1, .int .i64 1, .int .i64 5, .slice none 0 0, .int .i64 0, .slice none 0 0, .slice none 0 0, .slice (some ⟨w.heap.size + 1 + 2, 0, none⟩) 2 2, .slice none 0 0]) (by simp [results, Try.results24, go_sem, c0, c1, c2, c3, c4, c5, c6, c7, c8, c9]) rfl ⟨w.heap.size + 1, rfl, two_in h1 h2 h3, hO⟩
theorem tw_lo (X : Nat) : thoseU lowB (twP X).ts 2 2 = [0] := rfl
theorem tw_hi (X : Nat) : thoseU highB (twP X).ts 1 2 = [0, 1] := rfl
theorem tw_ab0 (X : Nat) : aboU (twP X).ts 1 2 = [1] := rfl
theorem tw_ab1 (X : Nat) : aboU (twP X).ts 2 2 = [] := rfl
theorem tw_c0 (X : Nat) : totU (cntU (twP X).ts 25) (aboU (twP X).ts 1 2) = 3 := by
  rw [tw_ab0]
  show sA 0 (sC 25 (ofU (per (twP X).ts 1))) = 3
  rw [show per (twP X).ts 1 = 10 from rfl]
  decide
theorem tw_c1 (X : Nat) : totU (cntU (twP X).ts 25) (aboU (twP X).ts 2 2) = 0 := by rw [tw_ab1]; rfl
theorem tw_wr : wrsZ twO 1 5 = 22 := by decide
theorem tw_ln : lonZ 1 (ceZ []) 0 twO 1 5 2 = 2 := by decide
theorem tw_of : ofU 3 = 3 := by decide
theorem tw_bk : blkU (wrsZ twO 1 5).toNat (lonZ 1 (ceZ []) 0 twO 1 5 2).toNat 1 3 2 = 7 := by
  rw [tw_wr, tw_ln]
  unfold blkU kepU
  rw [tw_of]
  decide
theorem tw_hen (X : Nat) : (twC X).ce.n ≤ 4096 := by show 0 ≤ 4096; omega
theorem tw_htn (X : Nat) : (twC X).ta.n ≤ 1000000 := by show 2 ≤ 1000000; omega
theorem tw_hl9 (X : Nat) : ∀ (k : Nat) t l, (twP X)[k]? = some (t, l) → l.length ≤ 1000 := fun k t l h => by
  match k, h with
  | 0, h => cases h; decide
  | 1, h => cases h; decide
  | k + 2, h => simp [twP] at h
theorem two_low {w : World} {X : Nat} (h : ConfIn w (twC X) twD (twP X)) : Calls Try.prog 11 #[twV X, .int .i64 1] w (RowEnd w [0]) := lower_any h.t (tw_htn X) (i := 1) (ti := twB X) rfl
theorem two_high {w : World} {X : Nat} (h : ConfIn w (twC X) twD (twP X)) : Calls Try.prog 12 #[twV X, .int .i64 0] w (RowEnd w [0, 1]) := higher_any h.t (tw_htn X) (i := 0) (ti := twA X) rfl
theorem two_cnt0 {w : World} {X : Nat} (h : ConfIn w (twC X) twD (twP X)) : Calls Try.prog 8 #[twV X, .int .i64 0, .int .u64 25] w (GrowU 3 w) := by
  have := count_any h.t (tw_htn X) (win := 25) (by decide) (i := 0) (ti := twA X) rfl
  rw [show totU (cntU (twP X).ts 25) (aboU (twP X).ts (twA X).th (twC X).ta.n) = 3 from tw_c0 X] at this
  exact this
theorem two_cnt1 {w : World} {X : Nat} (h : ConfIn w (twC X) twD (twP X)) : Calls Try.prog 8 #[twV X, .int .i64 1, .int .u64 25] w (GrowU 0 w) := by
  have := count_any h.t (tw_htn X) (win := 25) (by decide) (i := 1) (ti := twB X) rfl
  rw [show totU (cntU (twP X).ts 25) (aboU (twP X).ts (twB X).th (twC X).ta.n) = 0 from tw_c1 X] at this
  exact this
theorem two_bk {w : World} {X : Nat} (h : ConfIn w (twC X) twD (twP X)) : Calls Try.prog 10 #[twV X, .int .i64 0, .int .i64 1] w (GrowU 7 w) := by
  have := blocking_any h (tw_hen X) (i := 0) (j := 1) (t := twA X) (tj := twB X) (l := twO) rfl rfl (by decide) (tw_htn X)
  rw [show blkU (wrsZ twO (twC X).h (twC X).mi).toNat (lonZ (twA X).th (ceZ twD.ce) (twC X).ce.n twO (twC X).h (twC X).mi (twB X).p).toNat (twA X).th (twA X).fl (twB X).p = 7 from tw_bk] at this
  exact this
theorem tw_d1 (X : Nat) : dlyU (blkI (twC X) twD (twP X) 2) (thoseU lowB (twP X).ts 2 2) = 7 := by
  rw [tw_lo]
  show max 0 (blkI (twC X) twD (twP X) 2 0) = 7
  rw [show blkI (twC X) twD (twP X) 2 0 = 7 from tw_bk]
  decide
theorem two_dl1 {w : World} {X : Nat} (h : ConfIn w (twC X) twD (twP X)) : Calls Try.prog 9 #[twV X, .int .i64 1] w (GrowU 7 w) := by
  have := delay_any h (tw_hen X) (tw_htn X) (tw_hl9 X) (i := 1) (ti := twB X) rfl
  rw [show dlyU (blkI (twC X) twD (twP X) (twB X).p) (thoseU lowB (twP X).ts (twB X).p (twC X).ta.n) = 7 from tw_d1 X] at this
  exact this
theorem tw_d0 (X : Nat) : dlyU (blkI (twC X) twD (twP X) 1) (thoseU lowB (twP X).ts 1 2) = 0 := rfl
theorem two_dl0 {w : World} {X : Nat} (h : ConfIn w (twC X) twD (twP X)) : Calls Try.prog 9 #[twV X, .int .i64 0] w (GrowU 0 w) := by
  have := delay_any h (tw_hen X) (tw_htn X) (tw_hl9 X) (i := 0) (ti := twA X) rfl
  rw [show dlyU (blkI (twC X) twD (twP X) (twA X).p) (thoseU lowB (twP X).ts (twA X).p (twC X).ta.n) = 0 from tw_d0 X] at this
  exact this
theorem two_dl2 {w : World} {X : Nat} : Calls Try.prog 9 #[twV X, .int .i64 2] w (GrowU 0 w) := delay_none (c := twC X) (z := 2) (by show hasT 2 2 = false; decide)
set_option maxRecDepth 100000 in
set_option maxHeartbeats 4000000 in
theorem fixed27_any (w : World) : Calls Try.prog 6 #[] w (GrowB true w) := by
  obtain ⟨Z, hZ⟩ : ∃ Z, Z = GrowB true w := ⟨_, rfl⟩
  rw [← hZ]
  have hfin := Lib.hid (fun W (ho : Only (fun _ => False) w W) => show Z (.returned (.bool true)) W from by rw [hZ]; exact ⟨rfl, ho⟩)
  clear hZ
  go_enter Try.func6, Try.ntmps6
  go_wp2_with fail
  refine (two_any w).mono ?_
  rintro e w1 ⟨X, rfl, hC, ho⟩
  have hO1 := Lib.hid ho
  have hC' := Lib.hid hC
  clear hC ho
  go_wp2_with fail
  refine (two_low hC'.out).mono ?_
  rintro e w2 ⟨pL, cL, hL, rfl, hWL, -, ho⟩
  have hRL := Lib.hid (fun W (hx : Only (fun _ => False) w2 W) => hWL.kept hx (fun _ _ h => h))
  have hO2 := Lib.hid (hO1.out.trans' ho)
  have hK := Lib.hid (Only.refl (fun _ => False) w2)
  clear ho hC' hWL
  rw [show ([0] : List Nat).length = 1 from rfl]
  go_wp2_with fail
  refine (two_any w2).mono ?_
  rintro e w3 ⟨X, rfl, hC, ho⟩
  have hO3 := Lib.hid (hO2.out.trans' ho)
  replace hK := Lib.hid (hK.out.trans' ho)
  have hC' := Lib.hid hC
  clear hC ho
  go_wp2_with fail
  refine (two_high hC'.out).mono ?_
  rintro e w4 ⟨pH, cH, hH, rfl, hWH, -, ho⟩
  have hRH := Lib.hid (fun W (hx : Only (fun _ => False) w4 W) => hWH.kept hx (fun _ _ h => h))
  have hO4 := Lib.hid (hO3.out.trans' ho)
  replace hK := Lib.hid (hK.out.trans' ho)
  clear ho hC' hWH
  rw [show ([0, 1] : List Nat).length = 2 from rfl]
  go_wp2_with fail
  refine (two_any w4).mono ?_
  rintro e w5 ⟨X, rfl, hC, ho⟩
  have hO5 := Lib.hid (hO4.out.trans' ho)
  replace hK := Lib.hid (hK.out.trans' ho)
  have hC' := Lib.hid hC
  clear hC ho
  go_wp2_with fail
  refine (two_cnt0 hC'.out).mono ?_
  rintro e w6 ⟨rfl, ho⟩
  have hO6 := Lib.hid (hO5.out.trans' ho)
  replace hK := Lib.hid (hK.out.trans' ho)
  clear ho hC'
  go_wp2_with fail
  refine (two_any w6).mono ?_
  rintro e w7 ⟨X, rfl, hC, ho⟩
  have hO7 := Lib.hid (hO6.out.trans' ho)
  replace hK := Lib.hid (hK.out.trans' ho)
  have hC' := Lib.hid hC
  clear hC ho
  go_wp2_with fail
  refine (two_cnt1 hC'.out).mono ?_
  rintro e w8 ⟨rfl, ho⟩
  have hO8 := Lib.hid (hO7.out.trans' ho)
  replace hK := Lib.hid (hK.out.trans' ho)
  clear ho hC'
  go_wp2_with fail
  refine (two_any w8).mono ?_
  rintro e w9 ⟨X, rfl, hC, ho⟩
  have hO9 := Lib.hid (hO8.out.trans' ho)
  replace hK := Lib.hid (hK.out.trans' ho)
  have hC' := Lib.hid hC
  clear hC ho
  go_wp2_with fail
  refine (two_bk hC'.out).mono ?_
  rintro e w10 ⟨rfl, ho⟩
  have hO10 := Lib.hid (hO9.out.trans' ho)
  replace hK := Lib.hid (hK.out.trans' ho)
  clear ho hC'
  go_wp2_with fail
  refine (two_any w10).mono ?_
  rintro e w11 ⟨X, rfl, hC, ho⟩
  have hO11 := Lib.hid (hO10.out.trans' ho)
  replace hK := Lib.hid (hK.out.trans' ho)
  have hC' := Lib.hid hC
  clear hC ho
  go_wp2_with fail
  refine (two_dl1 hC'.out).mono ?_
  rintro e w12 ⟨rfl, ho⟩
  have hO12 := Lib.hid (hO11.out.trans' ho)
  replace hK := Lib.hid (hK.out.trans' ho)
  clear ho hC'
  go_wp2_with fail
  refine (two_any w12).mono ?_
  rintro e w13 ⟨X, rfl, hC, ho⟩
  have hO13 := Lib.hid (hO12.out.trans' ho)
  replace hK := Lib.hid (hK.out.trans' ho)
  have hC' := Lib.hid hC
  clear hC ho
  go_wp2_with fail
  refine (two_dl0 hC'.out).mono ?_
  rintro e w14 ⟨rfl, ho⟩
  have hO14 := Lib.hid (hO13.out.trans' ho)
  replace hK := Lib.hid (hK.out.trans' ho)
  clear ho hC'
  have hL := hRL.out w14 (hK.out)
  obtain ⟨gl, off, rfl, cx, cxl⟩ := cell_at hL (dat_at (L := [0]) (i := 0) rfl)
  rw [Nat.add_zero] at cx
  clear hL
  go_wp2_with fail
  refine (two_any w14).mono ?_
  rintro e w15 ⟨X, rfl, hC, ho⟩
  have hO15 := Lib.hid (hO14.out.trans' ho)
  replace hK := Lib.hid (hK.out.trans' ho)
  have hC' := Lib.hid hC
  clear hC ho
  go_wp2_with fail
  refine (two_dl2 (X := X)).mono ?_
  rintro e w16 ⟨rfl, ho⟩
  have hO16 := Lib.hid (hO15.out.trans' ho)
  replace hK := Lib.hid (hK.out.trans' ho)
  clear ho hC'
  have hf := Lib.hid (hfin.out w16 hO16.out)
  go_wp2
  exact hf.out
end Pre
end Go.Proofs.Ytdoimkmhincmmaa
