/- AdmitTells, walked. -/
import Derived.Test.YtlbinlhaejhobaaGreatDoorRef9
import Derived.Test.YtlbinlhaejhobaaGreatDoorRef10
import Derived.Test.YtlbinlhaejhobaaGreatDoorFix28
namespace Go.Proofs.YtlbinlhaejhobaaGreatDoor
namespace Adm
open Go Go.RowKit Rca Sct Lin Lck Cst Rld Pre
open Bch (U sA sC sM sA_le sC_le sM_le GrowU GrowI Ld LRow LB orU)
theorem flat_at {f : Nat → List Value} (hf : ∀ i, (f i).length = 6) : ∀ (n k j : Nat), k < n → j < 6 → ((List.range n).flatMap f)[k * 6 + j]? = (f k)[j]? := by
  intro n
  have hl : ∀ n, ((List.range n).flatMap f).length = n * 6 := by
    intro n
    induction n with
    | zero => rfl
    | succ n ih => rw [List.range_succ, List.flatMap_append, List.length_append, ih]; simp [hf]; omega
  induction n with
  | zero => intro k j h; omega
  | succ n ih =>
    intro k j hk hj
    rw [List.range_succ, List.flatMap_append]
    by_cases hkn : k = n
    · subst hkn
      rw [List.getElem?_append_right (by rw [hl]; omega), hl]
      simp [show k * 6 + j - k * 6 = j by omega]
    · rw [List.getElem?_append_left (by rw [hl]; omega)]
      exact ih k j (by omega) hj
theorem ln_at (c : ConfV) (d : ConfL) (pl : Tks) {n k j : Nat} (hk : k < n) (hj : j < 6) : (lnL c d pl n)[k * 6 + j]? = (lineI c d pl k).cells[j]? := flat_at (fun _ => rfl) n k j hk hj
theorem rln_at (c : ConfV) (d : ConfL) (pl : Tks) {n k j : Nat} (hk : k < n) (hj : j < 6) : (rlnL c d pl n)[k * 6 + j]? = (rlnI c d pl k).cells[j]? := flat_at (fun _ => rfl) n k j hk hj
set_option maxRecDepth 100000 in
set_option maxHeartbeats 8000000 in
theorem tells28_any {w : World} {c : ConfV} {d : ConfL} {pl : Tks} (hw : Words w) (hC : ConfIn w c d pl) :
    Calls Tryz.prog 3 #[c.val] w (GrowB true w) := by
  obtain ⟨q, hq⟩ : ∃ q, q = w.heap.size := ⟨_, rfl⟩
  obtain ⟨W2, hW2⟩ : ∃ W2, W2 = w.alloc (.cells c.cells.toArray 27) := ⟨_, rfl⟩
  have hO2 : Only (fun _ => False) w W2 := by rw [hW2]; exact (Only.refl _ w).alloc _
  have b0 : W2.heap[q]? = some (.cells c.cells.toArray 27 (0, 0)) := by rw [hW2]; exact heap_new_at _ _ hq.symm
  have hq' := Lib.hid hq
  have hcy := Lib.hid (fun W (ho : Only (fun _ => False) W2 W) => cyv_of (ho.heap b0 (fun h => h)))
  obtain ⟨cv, hcv⟩ : ∃ cv, cv = c.val := ⟨_, rfl⟩
  obtain ⟨F, hF⟩ : ∃ F, F = fewB c pl.ts := ⟨_, rfl⟩
  obtain ⟨V, hV⟩ : ∃ V, V = confZ c d pl := ⟨_, rfl⟩
  have cfew := Lib.hid (fun W (ho : Only (fun _ => False) W2 W) => show Calls Tryz.prog 11 #[cv] W (GrowB F W) from by rw [hcv, hF]; exact (hC.new (hO2.trans' ho)).few)
  have cadm := Lib.hid (fun (hf : F = true) W (ho : Only (fun _ => False) W2 W) => show Calls Tryz.prog 15 #[cv] W (GrowB (admB c d pl) W) from by
    rw [hcv]
    have h1 := hC.new (hO2.trans' ho)
    exact admitted_any (hw.new (hO2.trans' ho)) h1 (h1.conf (by rw [← hF]; exact hf)))
  have cusd := Lib.hid (fun (hf : F = true) W (h9 : Only (fun _ => False) W2 W) => show Calls Tryz.prog 13 #[cv] W (fun e w' => e = .returned (.tuple #[U (usdE c d pl).1, U (usdE c d pl).2]) ∧ Only (fun _ => False) W w') from by
    rw [hcv]
    have h1 := hC.new (hO2.trans' h9)
    exact used_any (hw.new (hO2.trans' h9)) h1 (h1.conf (by rw [← hF]; exact hf)))
  have cana := Lib.hid (fun (hf : F = true) W (h9 : Only (fun _ => False) W2 W) => show Calls Tryz.prog 12 #[cv] W (AnEnd c d pl W) from by
    rw [hcv]
    have h1 := hC.new (hO2.trans' h9)
    exact analyse_any (hw.new (hO2.trans' h9)) h1 (h1.conf (by rw [← hF]; exact hf)))
  have cchk := Lib.hid (fun (hf : F = true) W (h9 : Only (fun _ => False) W2 W) => show Calls Tryz.prog 14 #[cv] W (GrowI V W) from by
    rw [hcv, hV]
    have h1 := hC.new (hO2.trans' h9)
    exact rconfCheck_any (h1.conf (by rw [← hF]; exact hf)))
  have hFn := Lib.hid (fun (h0 : V = 0) => show Fin0.Fine c d pl from Fin0.of_zero (by rw [← hV]; exact h0))
  have csho := Lib.hid (fun (h0 : V = 0) W (h9 : Only (fun _ => False) W2 W) => show Calls Tryz.prog 16 #[cv] W (ShEnd pl W) from by rw [hcv]; exact rshort_any (hC.new (hO2.trans' h9)) (by have := (hFn.out h0).counts; omega))
  have crad := Lib.hid (fun (h0 : V = 0) (hS : ∀ (i : Nat) t, pl.ts[i]? = some t → t.pe ≤ 1500) W (h9 : Only (fun _ => False) W2 W) => show Calls Tryz.prog 17 #[cv] W (GrowB (!lateB c d pl c.ta.n) W) from by
    rw [hcv, ← rad_late hC (hFn.out h0) c.ta.n (Nat.le_refl _)]; exact radmitted_any (hC.new (hO2.trans' h9)) (hFn.out h0) hS)
  have cdep := Lib.hid (fun (h0 : V = 0) W (h9 : Only (fun _ => False) W2 W) => show Calls Tryz.prog 19 #[cv] W _ from by rw [hcv]; exact rdeep_any (hC.new (hO2.trans' h9)) (hFn.out h0))
  have cdpt := Lib.hid (fun (h0 : V = 0) W (h9 : Only (fun _ => False) W2 W) A cap hh (hW : Win W 3 1 (.slice A (Bch.deepL pl.ts).length cap) hh (Bch.deepL pl.ts).length (dat (Bch.deepL pl.ts))) => show Calls Tryz.prog 18 #[cv, .slice A (Bch.deepL pl.ts).length cap] W (GrowI (Bch.bndZ pl.ts) W) from by rw [hcv]; exact rdepth_any (hC.new (hO2.trans' h9)) (hFn.out h0) hW)
  have clin := Lib.hid (fun (h0 : V = 0) W (h9 : Only (fun _ => False) W2 W) => show Calls Tryz.prog 20 #[cv, .int .u64 3000] W (RlEnd c d pl W) from by rw [hcv]; exact rlines_any (hC.new (hO2.trans' h9)) (hFn.out h0))
  have cfx := Lib.hid (fixed28_any (hw.new hO2))
  obtain ⟨Z, hZ⟩ : ∃ Z, Z = GrowB true w := ⟨_, rfl⟩
  rw [← hZ]
  have hfin := Lib.hid (fun W (ho : Only (fun _ => False) W2 W) => show Z (.returned (.bool true)) W from by rw [hZ]; exact ⟨rfl, hO2.trans' ho⟩)
  have hue := Lib.hid (fun (h0 : V ≠ 0) => show (usdE c d pl) = (0, 0) ∧ admB c d pl = false from by
    unfold usdE admB
    rw [← hV, if_neg h0]
    simp [h0])
  obtain ⟨o1u, hu1⟩ : ∃ n, n = (usdE c d pl).1 := ⟨_, rfl⟩
  obtain ⟨o2u, hu2⟩ : ∃ n, n = (usdE c d pl).2 := ⟨_, rfl⟩
  rw [← hu1, ← hu2] at cusd
  obtain ⟨AV, hAV⟩ : ∃ b, b = admB c d pl := ⟨_, rfl⟩
  rw [← hAV] at cadm
  have hue2 := Lib.hid (fun (h0 : V ≠ 0) => show o1u = 0 ∧ o2u = 0 ∧ AV = false from by
    obtain ⟨h1, h2⟩ := hue.out h0
    rw [hu1, hu2, hAV, h1, h2]
    exact ⟨rfl, rfl, rfl⟩)
  obtain ⟨BZ, hBZ⟩ : ∃ B, B = Bch.bndZ pl.ts := ⟨_, rfl⟩
  rw [← hBZ] at cdpt
  obtain ⟨LB, hLB⟩ : ∃ B, B = lateB c d pl c.ta.n := ⟨_, rfl⟩
  rw [← hLB] at crad
  obtain ⟨E, hE⟩ : ∃ E, E = errE LB := ⟨_, rfl⟩
  obtain ⟨LNL, hLNL⟩ : ∃ L, L = lnL c d pl c.ta.n := ⟨_, rfl⟩
  obtain ⟨RLL, hRLL⟩ : ∃ L, L = rlnL c d pl c.ta.n := ⟨_, rfl⟩
  have hanE := Lib.hid (fun e W W' (h : AnEnd c d pl W e W') => show Only (fun _ => False) W W' ∧ (V ≠ 0 → e = .returned (.tuple #[.agg #[.slice none 0 0, .int .i64 0], .int .i64 V])) ∧ (V = 0 → ∃ A cap hh, e = .returned (.tuple #[.agg #[.slice A c.ta.n cap, .int .i64 BZ], .int .i64 E]) ∧ Win W' 46 6 (.slice A c.ta.n cap) hh c.ta.n LNL) from by
    obtain ⟨h1, h2, h3⟩ := h
    rw [hV]
    refine ⟨h1, h2, fun h0 => ?_⟩
    obtain ⟨A, cap, hh, e1, e2, -⟩ := h3 h0
    rw [hBZ, hE, hLB, hLNL]
    exact ⟨A, cap, hh, e1, e2⟩)
  have hq4 := Lib.hid (fun (h0 : V = 0) => show (AV != (E == 0)) = false from by
    rw [hAV, hE, hLB]
    unfold admB errE
    rw [← hV, h0]
    cases lateB c d pl c.ta.n <;> rfl)
  have hnz := Lib.hid (fun k (hk : k < c.ta.n) => show ∃ co de re pr rl ex rr rp rx : Nat, (∀ j u, [U co, U de, U re, U pr, U rl, U ex][j]? = some u → LNL[k * 6 + j]? = some u) ∧ (∀ j u, [U co, U de, U rr, U rp, U rl, U rx][j]? = some u → RLL[k * 6 + j]? = some u) ∧ ((rr = 0 ∧ 3000 < re) ∨ (rr ≠ 0 ∧ re = rr ∧ pr = rp ∧ ex = rx)) from by
    have hj6 : ∀ (l : List Value) j u, l.length = 6 → l[j]? = some u → j < 6 := fun l j u hl h => by have := (List.getElem?_eq_some_iff.1 h).1; omega
    refine ⟨(lineI c d pl k).co, (lineI c d pl k).de, (lineI c d pl k).re, (lineI c d pl k).pr, (lineI c d pl k).rl, (lineI c d pl k).ex, (rlnI c d pl k).re, (rlnI c d pl k).pr, (rlnI c d pl k).ex, fun j u h => ?_, fun j u h => ?_, ?_⟩
    · rw [hLNL, ln_at c d pl hk (hj6 _ j u rfl h)]; exact h
    · rw [hRLL, rln_at c d pl hk (hj6 _ j u rfl h)]; exact h
    · by_cases h0 : rspI c d pl k = 0
      · exact .inl ⟨h0, re_3000 c d pl k h0⟩
      · obtain ⟨-, e1, e2, e3⟩ := re_same c d pl k (R := rspI c d pl k) rfl h0
        refine .inr ⟨h0, e1, ?_, ?_⟩
        · rw [e2]; show _ = (if rspI c d pl k = 0 then 0 else cntI c pl k (rspI c d pl k)); rw [if_neg h0]
        · rw [e3]; show _ = (if rspI c d pl k = 0 then 0 else sM (cntI c pl k (rspI c d pl k)) (relI c pl k)); rw [if_neg h0])
  have clin2 := Lib.hid (fun (h0 : V = 0) W (h9 : Only (fun _ => False) W2 W) => show Calls Tryz.prog 20 #[cv, .int .u64 3000] W (fun e W' => ∃ A cap hh, e = .returned (.slice A c.ta.n cap) ∧ Win W' 45 6 (.slice A c.ta.n cap) hh c.ta.n RLL ∧ Only (fun _ => False) W W') from (clin.out h0 W h9).mono fun e W' ⟨A, cap, hh, e1, e2, _, e4⟩ => by rw [hRLL]; exact ⟨A, cap, hh, e1, e2, e4⟩)
  have hE' := Lib.hid hE
  obtain ⟨DL, hDL⟩ : ∃ L, L = Bch.deepL pl.ts := ⟨_, rfl⟩
  rw [← hDL] at cdep cdpt
  obtain ⟨dm, hdm⟩ : ∃ n, n = DL.length := ⟨_, rfl⟩
  rw [← hdm] at cdep cdpt
  clear clin
  obtain ⟨us, hus⟩ : ∃ u : Nat → Nat × Nat, u = usdU c pl := ⟨_, rfl⟩
  obtain ⟨cf, hcf⟩ : ∃ cf, cf = cosI c pl := ⟨_, rfl⟩
  obtain ⟨pf, hpf⟩ : ∃ pf, pf = perI pl := ⟨_, rfl⟩
  have hU0 := Lib.hid (show us 0 = (0, 1) from by rw [hus]; rfl)
  have hUs := Lib.hid (fun k => show us (k + 1) = (sA (sM (us k).1 (pf k)) (sM (cf k) (us k).2), sM (us k).2 (pf k)) from by rw [hus, hcf, hpf]; rfl)
  have hU9 := Lib.hid (fun k => show (us k).1 ≤ 18446744073709551615 ∧ (us k).2 ≤ 18446744073709551615 from by rw [hus]; exact usdU_le c pl k)
  have huu := Lib.hid (fun (h0 : V = 0) => show o1u = (us c.ta.n).1 ∧ o2u = (us c.ta.n).2 from by
    rw [hu1, hu2, hus]
    unfold usdE
    rw [← hV, if_pos h0]
    exact ⟨rfl, rfl⟩)
  have ccos := Lib.hid (fun (h0 : V = 0) W (h9 : Only (fun _ => False) W2 W) i (hi : i < c.ta.n) => show Calls Tryz.prog 23 #[cv, .int .i64 (i : Int)] W (GrowU (cf i) W) from by rw [hcv, hcf]; exact rcost_any (hC.new (hO2.trans' h9)) (hFn.out h0) hi)
  have hcp := Lib.hid (fun (h0 : V = 0) i (hi : i < c.ta.n) => show cf i ≤ 18446744073709551615 ∧ per pl.ts i = (pf i : Int) ∧ pf i ≤ 1048576 from by
    rw [hcf, hpf]
    have h1 := cosI_le hC (hFn.out h0) i
    obtain ⟨h2, h3, h4⟩ := perI_le hC (hFn.out h0) hi
    exact ⟨by omega, h4.symm, h3⟩)
  have hn8 := Lib.hid (fun (h0 : V = 0) => show c.ta.n ≤ 8 from (hFn.out h0).counts.2.2.2.2.1)
  have hta := Lib.hid (fun W (ho : Only (fun _ => False) W2 W) x (hx : x < c.ta.n) => show ∃ b off t, c.ta.A = some ⟨b, off, none⟩ ∧ b < W.heap.size ∧ TaskCells W b (off + x * 7) t ∧ per pl.ts x = t.pe from by
    have hT := (hC.new (hO2.trans' ho)).t
    obtain ⟨t, ht⟩ : ∃ t, pl.ts[x]? = some t := ⟨_, List.getElem?_eq_getElem (by rw [hT.len]; exact hx)⟩
    obtain ⟨b, off, hA, hb, hCe⟩ := hT.at_ x t ht
    exact ⟨b, off, t, hA, hb, hCe, per_at ht⟩)
  rw [← hcv]
  unfold ConfV.val at hcv
  subst hcv
  unfold CYv at hcy
  unfold ConfV.cells at hW2
  have hW2' := Lib.hid hW2
  clear hZ hq hO2 b0 hW2 hC hw hF hV hue hu1 hu2 hAV hBZ hLB hE hLNL hRLL hDL hdm hus hcf hpf hFn
  obtain ⟨c0, wy, h, mi, ⟨mA, mn, mc⟩, g, ⟨cA, cn, cc⟩, ⟨eA, en, ec⟩, ⟨tA, tn, tc⟩, ⟨lA, ln, lc⟩⟩ := c
  dsimp only at *
  obtain ⟨d0, d1, d2, d3, d4, d5, d6, d7, d8, d9, dl⟩ := hcy.out W2 (Only.refl _ _)
  go_enter Tryz.func3, Tryz.ntmps3
  go_upto_region 1 with fail
  rw [← hq'.out]
  rw [← hW2'.out]
  clear d0 d1 d2 d3 d4 d5 d6 d7 d8 d9 dl
  go_wp2_with fail
  refine cfx.out.mono ?_
  rintro e w3 ⟨rfl, ho⟩
  have hO3 := Lib.hid ho
  clear ho cfx
  obtain ⟨d0, d1, d2, d3, d4, d5, d6, d7, d8, d9, dl⟩ := hcy.out w3 hO3.out
  go_wp2_with fail
  refine (cfew.out w3 hO3.out).mono ?_
  rintro e w4 ⟨rfl, ho⟩
  have hO4 := Lib.hid (hO3.out.trans' ho)
  clear ho d0 d1 d2 d3 d4 d5 d6 d7 d8 d9 dl
  cases F with
  | false =>
    have hf := Lib.hid (hfin.out w4 hO4.out)
    go_wp2
    exact hf.out
  | true =>
    obtain ⟨d0, d1, d2, d3, d4, d5, d6, d7, d8, d9, dl⟩ := hcy.out w4 hO4.out
    by_cases hg1 : 1000 < g
    · have hf := Lib.hid (hfin.out w4 hO4.out)
      go_wp2
      exact hf.out
    by_cases hg2 : g < -1000
    · have hf := Lib.hid (hfin.out w4 hO4.out)
      go_wp2
      exact hf.out
    go_wp2_with fail
    refine (cana.out trivial w4 hO4.out).mono ?_
    intro e w5 hA
    obtain ⟨ho, hA1, hA2⟩ := hanE.out _ _ _ hA
    have hO5 := Lib.hid (hO4.out.trans' ho)
    clear ho hA hg1 hg2 d0 d1 d2 d3 d4 d5 d6 d7 d8 d9 dl
    by_cases hV0 : V = 0
    · obtain ⟨A, cap, hh, rfl, hWA⟩ := hA2 hV0
      have hVn : (V != 0) = false := by simp [hV0]
      have hWA' := Lib.hid (fun W (ho : Only (fun _ => False) w5 W) => hWA.kept ho (fun _ _ h => h))
      obtain ⟨w6, hw6⟩ : ∃ w6, w6 = w5.alloc (.cells #[.slice A tn cap, .int .i64 BZ] 32) := ⟨_, rfl⟩
      obtain ⟨X, hX⟩ : ∃ X, X = w5.heap.size := ⟨_, rfl⟩
      have hX6 := Lib.hid (show w6.heap[X]? = some (.cells [Value.slice A tn cap, .int .i64 BZ].toArray 32 (0, 0)) from by rw [hw6, hX]; exact heap_new_at _ _ rfl)
      have hO6 := Lib.hid (show Only (fun _ => False) W2 w6 from by rw [hw6]; exact hO5.out.alloc _)
      have hO56 := Lib.hid (show Only (fun _ => False) w5 w6 from by rw [hw6]; exact (Only.refl _ _).alloc _)
      have hw6' := Lib.hid hw6
      have hX' := Lib.hid hX
      clear hw6 hX hA1 hA2 hWA
      have hk6 := Lib.hid (fun W (ho : Only (fun _ => False) w6 W) => show W.cell? ⟨q, 0, none⟩ = some (.int .i64 c0) ∧ W.cell? ⟨q, 1, none⟩ = some (.int .i64 wy) ∧ W.cell? ⟨q, 2, none⟩ = some (.int .i64 h) ∧ W.cell? ⟨q, 3, none⟩ = some (.int .i64 mi) ∧ W.cell? ⟨q, 4, none⟩ = some (.slice mA mn mc) ∧ W.cell? ⟨q, 5, none⟩ = some (.int .i64 g) ∧ W.cell? ⟨q, 6, none⟩ = some (.slice cA cn cc) ∧ W.cell? ⟨q, 7, none⟩ = some (.slice eA en ec) ∧ W.cell? ⟨q, 8, none⟩ = some (.slice tA tn tc) ∧ W.cell? ⟨q, 9, none⟩ = some (.slice lA ln lc) ∧ q < W.heap.size ∧ W.cell? ⟨X, 0, none⟩ = some (.slice A tn cap) ∧ W.cell? ⟨X, 1, none⟩ = some (.int .i64 BZ) ∧ X < W.heap.size from by
        obtain ⟨d0, d1, d2, d3, d4, d5, d6, d7, d8, d9, dl⟩ := hcy.out W (hO6.out.trans' ho)
        exact ⟨d0, d1, d2, d3, d4, d5, d6, d7, d8, d9, dl, row_cell (ho.heap hX6.out (fun h => h)) (i := 0) rfl, row_cell (ho.heap hX6.out (fun h => h)) (i := 1) rfl, row_lt (ho.heap hX6.out (fun h => h))⟩)
      go_upto_region 6 with fail
      rw [← hw6'.out, ← hX'.out]
      obtain ⟨d0, d1, d2, d3, d4, d5, d6, d7, d8, d9, dl, x0, x1, xl⟩ := hk6.out w6 (Only.refl _ _)
      go_wp2_with fail
      refine (cusd.out trivial w6 hO6.out).mono ?_
      rintro e w7 ⟨rfl, ho⟩
      have hO7 := Lib.hid ho
      clear ho x0 x1 xl d0 d1 d2 d3 d4 d5 d6 d7 d8 d9 dl
      obtain ⟨d0, d1, d2, d3, d4, d5, d6, d7, d8, d9, dl, x0, x1, xl⟩ := hk6.out w7 hO7.out
      go_wp2_with fail
      refine (cchk.out trivial w7 (hO6.out.trans' hO7.out)).mono ?_
      rintro e w8 ⟨rfl, ho⟩
      have hO8 := Lib.hid (hO7.out.trans' ho)
      clear ho x0 x1 xl d0 d1 d2 d3 d4 d5 d6 d7 d8 d9 dl
      obtain ⟨d0, d1, d2, d3, d4, d5, d6, d7, d8, d9, dl, x0, x1, xl⟩ := hk6.out w8 hO8.out
      go_wp2_with fail
      refine (csho.out hV0 w8 (hO6.out.trans' hO8.out)).mono ?_
      rintro e w9 ⟨b, rfl, hS, ho⟩
      have hO9 := Lib.hid (hO8.out.trans' ho)
      clear ho x0 x1 xl d0 d1 d2 d3 d4 d5 d6 d7 d8 d9 dl
      cases b with
      | false =>
        have hf := Lib.hid (hfin.out w9 (hO6.out.trans' hO9.out))
        go_wp2
        exact hf.out
      | true =>
        have cra := Lib.hid (fun W (ho : Only (fun _ => False) W2 W) => crad.out hV0 (hS rfl) W ho)
        have cde := Lib.hid (fun W (ho : Only (fun _ => False) w9 W) => cdep.out hV0 W ((hO6.out.trans' hO9.out).trans' ho))
        have cdq := Lib.hid (fun W (ho : Only (fun _ => False) w9 W) => cdpt.out hV0 W ((hO6.out.trans' hO9.out).trans' ho))
        have cad := Lib.hid (fun W (ho : Only (fun _ => False) w9 W) => cadm.out trivial W ((hO6.out.trans' hO9.out).trans' ho))
        have cli := Lib.hid (fun W (ho : Only (fun _ => False) W2 W) => clin2.out hV0 W ho)
        have hq5 := hq4.out hV0
        clear hS
        obtain ⟨d0, d1, d2, d3, d4, d5, d6, d7, d8, d9, dl, x0, x1, xl⟩ := hk6.out w9 hO9.out
        have huu2 := Lib.hid (huu.out hV0)
        have hc2 := Lib.hid (hcp.out hV0)
        have htn8 := hn8.out hV0
        have cco := Lib.hid (ccos.out hV0)
        clear huu hcp hn8 ccos cana cadm cusd cchk csho crad cdep cdpt clin2 hanE hq4 hV0 hVn cfew
        go_wp2_with fail
        refine (cra.out w9 (hO6.out.trans' hO9.out)).mono ?_
        rintro e w9a ⟨rfl, ho⟩
        have hO9a := Lib.hid ho
        clear ho cra x0 x1 xl d0 d1 d2 d3 d4 d5 d6 d7 d8 d9 dl
        go_upto_if 77 with fail
        go_cut [8] from 77 to 77 (fun v wd => v = .int .i64 E ∧ Only (fun _ => False) w9 wd)
        case first =>
          cases LB with
          | false =>
            go_wp2
            go_meet
            case rel => exact ⟨by rw [hE'.out]; rfl, hO9a.out⟩
          | true =>
            go_wp2
            go_meet
            case rel => exact ⟨by rw [hE'.out]; rfl, hO9a.out⟩
        obtain ⟨rfl, hOc⟩ := hcut
        obtain ⟨w10, hw10⟩ : ∃ w10 : World, w10 = wc := ⟨_, rfl⟩
        subst hw10
        have hO10 := Lib.hid hOc
        clear hOc
        obtain ⟨d0, d1, d2, d3, d4, d5, d6, d7, d8, d9, dl, x0, x1, xl⟩ := hk6.out w10 (hO9.out.trans' hO10.out)
        have hEE : (E != E) = false := by simp
        have hTT : ((tn : Int) != (tn : Int)) = false := by simp
        have hBB : (BZ != BZ) = false := by simp
        go_upto_region 15 with fail
        go_cut [105] from 78 to 105 (fun v wd => v = .bool false ∧ Only (fun _ => False) w10 wd)
        case first =>
          go_region_held3 (fun W0 => W0.cell? ⟨q, 0, none⟩ = some (.int .i64 c0) ∧ W0.cell? ⟨q, 1, none⟩ = some (.int .i64 wy) ∧ W0.cell? ⟨q, 2, none⟩ = some (.int .i64 h) ∧ W0.cell? ⟨q, 3, none⟩ = some (.int .i64 mi) ∧ W0.cell? ⟨q, 4, none⟩ = some (.slice mA mn mc) ∧ W0.cell? ⟨q, 5, none⟩ = some (.int .i64 g) ∧ W0.cell? ⟨q, 6, none⟩ = some (.slice cA cn cc) ∧ W0.cell? ⟨q, 7, none⟩ = some (.slice eA en ec) ∧ W0.cell? ⟨q, 8, none⟩ = some (.slice tA tn tc) ∧ W0.cell? ⟨q, 9, none⟩ = some (.slice lA ln lc) ∧ q < W0.heap.size ∧ W0.cell? ⟨X, 0, none⟩ = some (.slice A tn cap) ∧ W0.cell? ⟨X, 1, none⟩ = some (.int .i64 BZ) ∧ X < W0.heap.size)
            (exact hk6.out _ (hO9.out.trans' (hO10.out.trans' (by repeat (first | with_reducible assumption | with_reducible exact Only.refl _ _ | with_reducible apply Only.drew | with_reducible apply Only.alloc)))))
            (first
              | (go_at_call 19; (with_reducible refine (cde.out _ (hO10.out.trans' (by repeat (first | with_reducible assumption | with_reducible exact Only.refl _ _ | with_reducible apply Only.drew | with_reducible apply Only.alloc)))).mono ?_); rintro _ w5 ⟨p5, c5, h5, rfl, hW5, ho5⟩; have hO5' : Only (fun _ => False) w10 w5 := Only.trans' (by repeat (first | with_reducible assumption | with_reducible exact Only.refl _ _ | with_reducible apply Only.drew | with_reducible apply Only.alloc)) ho5; have hD5 := Lib.hid (fun W (h : Only (fun _ => False) w5 W) => hW5.kept h (fun _ _ h => h)); clear hW5)
              | (go_at_call 18; (with_reducible refine (cdq.out _ (hO10.out.trans' (by repeat (first | with_reducible assumption | with_reducible exact Only.refl _ _ | with_reducible apply Only.drew | with_reducible apply Only.alloc))) _ _ _ (hD5.out _ (by repeat (first | with_reducible assumption | with_reducible exact Only.refl _ _ | with_reducible apply Only.drew | with_reducible apply Only.alloc)))).mono ?_); rintro _ w11 ⟨rfl, ho11⟩; have hO11' : Only (fun _ => False) w10 w11 := Only.trans' (by repeat (first | with_reducible assumption | with_reducible exact Only.refl _ _ | with_reducible apply Only.drew | with_reducible apply Only.alloc)) ho11)
              | (go_at_call 15; (with_reducible refine (cad.out _ (hO10.out.trans' (by repeat (first | with_reducible assumption | with_reducible exact Only.refl _ _ | with_reducible apply Only.drew | with_reducible apply Only.alloc)))).mono ?_); rintro _ w12 ⟨rfl, ho12⟩; have hO12' : Only (fun _ => False) w10 w12 := Only.trans' (by repeat (first | with_reducible assumption | with_reducible exact Only.refl _ _ | with_reducible apply Only.drew | with_reducible apply Only.alloc)) ho12))
          all_goals
            go_wp2
            go_meet
            case rel => exact ⟨congrArg Value.bool hq5, (by repeat (first | with_reducible assumption | with_reducible exact Only.refl _ _ | with_reducible apply Only.drew | with_reducible apply Only.alloc))⟩
        obtain ⟨rfl, hOc⟩ := hcut
        obtain ⟨w11, hw11⟩ : ∃ w11 : World, w11 = wc := ⟨_, rfl⟩
        subst hw11
        have hO11 := Lib.hid (hO9.out.trans' (hO10.out.trans' hOc))
        clear hOc hEE hTT hBB x0 x1 xl d0 d1 d2 d3 d4 d5 d6 d7 d8 d9 dl cde cdq cad
        obtain ⟨d0, d1, d2, d3, d4, d5, d6, d7, d8, d9, dl, x0, x1, xl⟩ := hk6.out w11 hO11.out
        go_wp2_with fail
        refine (cli.out w11 (hO6.out.trans' hO11.out)).mono ?_
        rintro e w12 ⟨A2, cap2, hh2, rfl, hWB, ho⟩
        have hO12 := Lib.hid (hO11.out.trans' ho)
        have hWB' := Lib.hid (fun W (ho : Only (fun _ => False) w12 W) => hWB.kept ho (fun _ _ h => h))
        clear ho hWB x0 x1 xl d0 d1 d2 d3 d4 d5 d6 d7 d8 d9 dl cli
        obtain ⟨d0, d1, d2, d3, d4, d5, d6, d7, d8, d9, dl, x0, x1, xl⟩ := hk6.out w12 hO12.out
        go_wp2
        clear x0 x1 xl d0 d1 d2 d3 d4 d5 d6 d7 d8 d9 dl
        go_loopw [9, 10, 11, 109] (fun _ _ _ i wr => ∃ k : Nat, i = .int .i64 k ∧ k ≤ tn ∧ Hid (Only (fun _ => False) w12 wr)) (fun _ _ _ i _ => tn - (intOf i).toNat)
        case atStart => exact ⟨0, rfl, Nat.zero_le _, Lib.hid (Only.refl _ _)⟩
        case round =>
          obtain ⟨k, rfl, hk, hO⟩ := hrel
          obtain ⟨ws, hws⟩ : ∃ ws : World, ws = wr := ⟨_, rfl⟩
          subst hws
          have hOs := Lib.hid (hO12.out.trans' hO.out)
          by_cases hkn : k < tn
          · have hkn' : (k : Int) < tn := by omega
            obtain ⟨co, de, re, pr, rl, ex, rr, rp, rx, hl1, hl2, hl3⟩ := hnz.out k hkn
            obtain ⟨ga, oa, ca, -, hva, -, -, hga, hca, -⟩ := (hWA'.out ws (hO56.out.trans' hOs.out)).at_ (by omega)
            obtain ⟨gb, ob, cb, -, hvb, -, -, hgb, hcb, -⟩ := (hWB'.out ws hO.out).at_ (by omega)
            injection hva with e1 _ e2
            subst e1 e2
            injection hvb with e1 _ e2
            subst e1 e2
            have a0 := hca _ _ (hl1 0 _ rfl)
            have a1 := hca _ _ (hl1 1 _ rfl)
            have a2 := hca _ _ (hl1 2 _ rfl)
            have a3 := hca _ _ (hl1 3 _ rfl)
            have a4 := hca _ _ (hl1 4 _ rfl)
            have a5 := hca _ _ (hl1 5 _ rfl)
            have b0 := hcb _ _ (hl2 0 _ rfl)
            have b1 := hcb _ _ (hl2 1 _ rfl)
            have b2 := hcb _ _ (hl2 2 _ rfl)
            have b3 := hcb _ _ (hl2 3 _ rfl)
            have b4 := hcb _ _ (hl2 4 _ rfl)
            have b5 := hcb _ _ (hl2 5 _ rfl)
            simp only [← Nat.add_assoc, Nat.add_zero] at a0 a1 a2 a3 a4 a5 b0 b1 b2 b3 b4 b5
            obtain ⟨d0, d1, d2, d3, d4, d5, d6, d7, d8, d9, dl, x0, x1, xl⟩ := hk6.out ws hOs.out
            have n1 : ((co : Int) != (co : Int)) = false := by simp
            have n2 : ((de : Int) != (de : Int)) = false := by simp
            have n3 : ((rl : Int) != (rl : Int)) = false := by simp
            have hOz := Lib.hid ((hO.out.alloc (.cells #[U co, U de, U rr, U rp, U rl, U rx] 45)).alloc (.cells #[U co, U de, U re, U pr, U rl, U ex] 46))
            clear hl1 hl2 hca hcb d0 d1 d2 d3 d4 d5 d6 d7 d8 d9 dl
            rcases hl3 with ⟨h1, h2⟩ | ⟨h1, h2, h3, h4⟩
            · have m1 : ((rr : Int) == 0) = true := by simp [h1]
              have m2 : ¬ (re : Int) ≤ 3000 := by omega
              clear h1 h2
              go_wp2
              go_roundw
              case rel => exact ⟨k + 1, by go_num, by omega, hOz⟩
              case measure => simp [intOf]; omega
            · have m1 : ((rr : Int) == 0) = false := by simp [h1]
              have m2 : ((re : Int) != (rr : Int)) = false := by simp [h2]
              have m3 : ((pr : Int) != (rp : Int)) = false := by simp [h3]
              have m4 : ((ex : Int) != (rx : Int)) = false := by simp [h4]
              clear h1 h2 h3 h4
              go_wp2
              go_roundw
              case rel => exact ⟨k + 1, by go_num, by omega, hOz⟩
              case measure => simp [intOf]; omega
          · obtain rfl : k = tn := by omega
            have hkn' : ¬ (k : Int) < (k : Int) := by omega
            obtain ⟨d0, d1, d2, d3, d4, d5, d6, d7, d8, d9, dl⟩ := hcy.out ws (hO6.out.trans' hOs.out)
            clear hnz hWA' hWB' hk6
            go_wp2
            clear d0 d1 d2 d3 d4 d5 d6 d7 d8 d9 dl
            go_loopw [12, 13, 14, 15, 167] (fun u4 u5 _ _ i wr => ∃ j : Nat, i = .int .i64 j ∧ j ≤ k ∧ u4 = U (us j).1 ∧ u5 = U (us j).2 ∧ Hid (Only (fun _ => False) ws wr)) (fun _ _ _ _ i _ => k - (intOf i).toNat)
            case atStart => exact ⟨0, rfl, Nat.zero_le _, by rw [hU0.out]; rfl, by rw [hU0.out]; rfl, Lib.hid (Only.refl _ _)⟩
            case round =>
              obtain ⟨j, rfl, hj, rfl, rfl, hOl⟩ := hrel
              obtain ⟨wl, hwl⟩ : ∃ wl : World, wl = wr := ⟨_, rfl⟩
              subst hwl
              have hOt := Lib.hid ((hO6.out.trans' hOs.out).trans' hOl.out)
              obtain ⟨a, ha⟩ : ∃ a, a = (us j).1 := ⟨_, rfl⟩
              obtain ⟨b, hb⟩ : ∃ b, b = (us j).2 := ⟨_, rfl⟩
              rw [← ha, ← hb]
              by_cases hjn : j < k
              · have hjn' : (j : Int) < k := by omega
                obtain ⟨tb, toff, t, rfl, htb, hCe, hpe⟩ := hta.out wl hOt.out j hjn
                obtain ⟨hc9, hpe2, hp9⟩ := hc2.out j hjn
                have hU := hUs.out j
                obtain ⟨hU1, hU2⟩ := hU9.out j
                rw [← ha] at hU1
                rw [← hb] at hU2
                rw [← ha, ← hb] at hU
                rw [hpe] at hpe2
                have qw := Lib.hid (fun W (ho : Only (fun _ => False) W2 W) => cco.out W ho j hjn)
                obtain ⟨C, hCf⟩ : ∃ C, C = cf j := ⟨_, rfl⟩
                obtain ⟨Q, hQ⟩ : ∃ Q, Q = pf j := ⟨_, rfl⟩
                rw [← hCf] at qw hU hc9
                rw [← hQ] at hU hp9 hpe2
                have m1 := Lib.hid (fun W => Bch.rmul_any a hU1 Q Q W (Nat.le_refl _) (by omega))
                have m2 := Lib.hid (fun W => Bch.rmul_any C hc9 b b W (Nat.le_refl _) hU2)
                have m3 := Lib.hid (fun W => Bch.radd_any (sM a Q) (sM C b) W (sM_le _ _) (sM_le _ _))
                have m4 := Lib.hid (fun W => Bch.rmul_any b hU2 Q Q W (Nat.le_refl _) (by omega))
                obtain ⟨X1, hX1⟩ : ∃ X, X = sM a Q := ⟨_, rfl⟩
                obtain ⟨X2, hX2⟩ : ∃ X, X = sM C b := ⟨_, rfl⟩
                obtain ⟨X3, hX3⟩ : ∃ X, X = sA X1 X2 := ⟨_, rfl⟩
                obtain ⟨X4, hX4⟩ : ∃ X, X = sM b Q := ⟨_, rfl⟩
                rw [← hX1] at m1 m3 hU
                rw [← hX2] at m2 m3 hU
                rw [← hX3] at m3 hU
                rw [← hX4] at m4 hU
                have hU' := Lib.hid hU
                have hw9 : IntKind.u64.wrap (Q : Int) = (Q : Int) := by rw [IntKind.wrap_u64]; omega
                obtain ⟨f0, f1, f2, f3, f4, f5, f6⟩ := hCe
                obtain ⟨tp, tth, tpe, tde, tfr, tfl, ⟨oA, on, oc⟩⟩ := t
                dsimp only at f0 f1 f2 f3 f4 f5 f6 hpe2
                subst hpe2
                clear ha hb hpe hU hCf hQ hX1 hX2 hX3 hX4 hU1 hU2 hc9 hp9
                obtain ⟨d0, d1, d2, d3, d4, d5, d6, d7, d8, d9, dl⟩ := hcy.out wl hOt.out
                go_upto_region 33 with fail
                obtain ⟨Y, hY⟩ : ∃ Y, Y = wl.heap.size := ⟨_, rfl⟩
                obtain ⟨w16, hw16⟩ : ∃ w16, w16 = wl.alloc (.cells #[.int .i64 tp, .int .i64 tth, .int .i64 (Q : Int), .int .i64 tde, .int .i64 tfr, .int .i64 tfl, .slice oA on oc] 49) := ⟨_, rfl⟩
                rw [← hw16, ← hY]
                have hY6 := Lib.hid (show w16.heap[Y]? = some (.cells ([.int .i64 tp, .int .i64 tth, .int .i64 (Q : Int), .int .i64 tde, .int .i64 tfr, .int .i64 tfl, .slice oA on oc]).toArray 49 (0, 0)) from by rw [hw16]; exact heap_new_at _ _ hY.symm)
                have hp6 := Lib.hid (show Only (fun _ => False) wl w16 from by rw [hw16]; exact (Only.refl _ _).alloc _)
                have hO16 := Lib.hid (hOt.out.trans' hp6.out)
                clear hY hw16 f0 f1 f2 f3 f4 f5 f6 htb d0 d1 d2 d3 d4 d5 d6 d7 d8 d9 dl
                obtain ⟨d0, d1, d2, d3, d4, d5, d6, d7, d8, d9, dl⟩ := hcy.out w16 hO16.out
                have y2 := row_cell hY6.out (i := 2) rfl
                have yl := row_lt hY6.out
                have p0 := wd_cell d0
                have p1 := wd_cell d1
                have p2 := wd_cell d2
                have p3 := wd_cell d3
                have p4 := wd_cell d4
                have p5 := wd_cell d5
                have p6 := wd_cell d6
                have p7 := wd_cell d7
                have p8 := wd_cell d8
                have p9 := wd_cell d9
                have pa := wd_cell y2
                have hex := wd_ex w16
                have r1 := Lib.hid (fun (x : Wd w16) => Calls.wd_same (x := x) ((m1.out x.W).mono fun _ _ h => ⟨h.1, h.2.symm⟩))
                have r2 := Lib.hid (fun (x : Wd w16) => Calls.wd_same (x := x) ((m2.out x.W).mono fun _ _ h => ⟨h.1, h.2.symm⟩))
                have r3 := Lib.hid (fun (x : Wd w16) => Calls.wd_same (x := x) ((m3.out x.W).mono fun _ _ h => ⟨h.1, h.2.symm⟩))
                have r4 := Lib.hid (fun (x : Wd w16) => Calls.wd (x := x) (qw.out x.W (hO16.out.trans' x.ok)))
                refine wp_region_wd (by kernel_rfl) (by kernel_rfl) ?_
                repeat (go_big_quiet_step (first | (go_at_call 22; first | with_reducible exact r1.out _ | with_reducible exact r2.out _) | (go_at_call 21; with_reducible exact r3.out _) | (go_at_call 23; with_reducible exact r4.out _)))
                refine wpQuiet_nil ?_
                rintro _ ⟨v, rfl⟩
                have hO17 := Lib.hid (hOl.out.trans' (hp6.out.trans' v.ok))
                have hY7 := Lib.hid (v.ok.heap hY6.out (fun h => h))
                obtain ⟨w17, hw17⟩ : ∃ w17, w17 = v.W := ⟨_, rfl⟩
                rw [← hw17] at hO17 hY7 ⊢
                clear hw17 hex r1 r2 r3 r4 p0 p1 p2 p3 p4 p5 p6 p7 p8 p9 pa y2 yl d0 d1 d2 d3 d4 d5 d6 d7 d8 d9 dl
                have y2 := row_cell hY7.out (i := 2) rfl
                have yl := row_lt hY7.out
                go_wp2_with fail
                refine (m4.out _).mono ?_
                rintro e w18 ⟨rfl, hw18⟩
                subst hw18
                go_wp2
                go_roundw
                case rel => exact ⟨j + 1, by go_num, by omega, by rw [hU'.out], by rw [hU'.out], hO17⟩
                case measure => simp [intOf]; omega
              · obtain rfl : j = k := by omega
                obtain ⟨h1, h2⟩ := huu2.out
                rw [← ha] at h1
                rw [← hb] at h2
                subst h1 h2
                have n1 : ((o1u : Int) == (o1u : Int)) = true := by simp
                have n2 : ((o2u : Int) == (o2u : Int)) = true := by simp
                have hf := Lib.hid (hfin.out wl hOt.out)
                clear ha hb
                go_wp2
                exact hf.out
    · obtain rfl := hA1 hV0
      obtain ⟨rfl, rfl, rfl⟩ := hue2.out hV0
      have hVn : (V != 0) = true := by simpa using hV0
      have hVe : (V == V) = true := by simp
      obtain ⟨w6, hw6⟩ : ∃ w6, w6 = w5.alloc (.cells #[.slice none 0 0, .int .i64 0] 32) := ⟨_, rfl⟩
      obtain ⟨X, hX⟩ : ∃ X, X = w5.heap.size := ⟨_, rfl⟩
      have hX6 := Lib.hid (show w6.heap[X]? = some (.cells [Value.slice none 0 0, .int .i64 0].toArray 32 (0, 0)) from by rw [hw6, hX]; exact heap_new_at _ _ rfl)
      have hO6 := Lib.hid (show Only (fun _ => False) W2 w6 from by rw [hw6]; exact hO5.out.alloc _)
      have hw6' := Lib.hid hw6
      have hX' := Lib.hid hX
      clear hw6 hX hA1 hA2
      go_upto_region 6 with fail
      rw [← hw6'.out, ← hX'.out]
      obtain ⟨d0, d1, d2, d3, d4, d5, d6, d7, d8, d9, dl⟩ := hcy.out w6 hO6.out
      go_wp2_with fail
      refine (cusd.out trivial w6 hO6.out).mono ?_
      rintro e w7 ⟨rfl, ho⟩
      have hO7 := Lib.hid (hO6.out.trans' ho)
      have hX7 := Lib.hid (ho.heap hX6.out (fun h => h))
      clear ho d0 d1 d2 d3 d4 d5 d6 d7 d8 d9 dl
      obtain ⟨d0, d1, d2, d3, d4, d5, d6, d7, d8, d9, dl⟩ := hcy.out w7 hO7.out
      go_wp2_with fail
      refine (cchk.out trivial w7 hO7.out).mono ?_
      rintro e w8 ⟨rfl, ho⟩
      have hO8 := Lib.hid (hO7.out.trans' ho)
      have hX8 := Lib.hid (ho.heap hX7.out (fun h => h))
      clear ho d0 d1 d2 d3 d4 d5 d6 d7 d8 d9 dl
      obtain ⟨d0, d1, d2, d3, d4, d5, d6, d7, d8, d9, dl⟩ := hcy.out w8 hO8.out
      have x0 := row_cell hX8.out (i := 0) rfl
      have x1 := row_cell hX8.out (i := 1) rfl
      have xl := row_lt hX8.out
      go_wp2_with fail
      refine (cadm.out trivial w8 hO8.out).mono ?_
      rintro e w9 ⟨rfl, ho⟩
      have hf := Lib.hid (hfin.out w9 (hO8.out.trans' ho))
      clear ho d0 d1 d2 d3 d4 d5 d6 d7 d8 d9 dl x0 x1 xl
      go_wp2
      exact hf.out
theorem tells28_law (c : ConfV) (W : World) (hw : Words W) (g0 : ∃ (dd : ConfL) (pl : Tks), ConfIn W c dd pl) :
    Calls Tryz.prog 3 #[c.val] W fun e w' => e = .returned (.bool true) ∧ Below W.heap.size W w' := by
  obtain ⟨dd, pl, hC⟩ := g0
  exact (tells28_any hw hC).mono fun e w' ⟨he, hO⟩ => ⟨he, hO.below (Nat.le_refl _) (fun _ h => h.elim)⟩
end Adm
end Go.Proofs.YtlbinlhaejhobaaGreatDoor
