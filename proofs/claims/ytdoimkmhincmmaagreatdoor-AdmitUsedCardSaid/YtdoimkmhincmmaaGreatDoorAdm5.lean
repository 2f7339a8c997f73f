/- AdmitUsed: what an admitted configuration takes is no more than there is; walked. -/
import Derived.Test.YtdoimkmhincmmaaGreatDoorFix28
namespace Go.Proofs.YtdoimkmhincmmaaGreatDoor
namespace Adm
open Go Go.RowKit Rca Sct Lin Lck Cst Rld Pre
open Bch (U sA sC sM sA_le sC_le sM_le GrowU Ld LRow LB orU)

/-- A demand that isn't too great is the sum. -/
theorem dem_sum (x : Nat) : ∀ (l : List Ld) (d : Nat), Bch.dem d l x < 18446744073709551615 → d + (l.map (fun y => y.1 * sC x y.2)).sum = Bch.dem d l x
  | [], d, _ => by simp [Bch.dem]
  | y :: l, d, h => by
    have e : Bch.dem d (y :: l) x = Bch.dem (sA d (sM y.1 (sC x y.2))) l x := rfl
    rw [e] at h ⊢
    have ih := dem_sum x l _ h
    rw [List.map_cons, List.sum_cons]
    generalize hS : (l.map (fun y => y.1 * sC x y.2)).sum = S at ih ⊢
    generalize hm : y.1 * sC x y.2 = m
    have hX : sA d (sM y.1 (sC x y.2)) < 18446744073709551615 := by omega
    have h1 : sA d (sM y.1 (sC x y.2)) = d + m := by
      have h2 : sM y.1 (sC x y.2) = if 18446744073709551615 < m then 18446744073709551615 else m := by unfold sM; rw [hm]
      rw [h2] at hX ⊢
      by_cases hm2 : 18446744073709551615 < m
      · rw [if_pos hm2] at hX
        unfold sA at hX
        split at hX <;> omega
      · rw [if_neg hm2] at hX ⊢
        unfold sA at hX ⊢
        split at hX
        · omega
        · next h9 => rw [if_neg h9]
    rw [h1] at ih
    rw [h1]
    omega
theorem least_prio (ts : List TaskV) : ∀ n, 0 < n → ∃ i, i < n ∧ ∀ k, k < n → prio ts i ≤ prio ts k
  | 1, _ => ⟨0, by omega, fun k hk => by rw [show k = 0 by omega]; exact Int.le_refl _⟩
  | n + 2, _ => by
    obtain ⟨i, hi, h⟩ := least_prio ts (n + 1) (by omega)
    by_cases hle : prio ts i ≤ prio ts (n + 1)
    · exact ⟨i, by omega, fun k hk => by
        by_cases hkn : k = n + 1
        · rw [hkn]; exact hle
        · exact h k (by omega)⟩
    · exact ⟨n + 1, by omega, fun k hk => by
        by_cases hkn : k = n + 1
        · rw [hkn]; exact Int.le_refl _
        · have := h k (by omega); omega⟩
theorem those_all {ts : List TaskV} {own : Int} {n : Nat} (h : ∀ k, k < n → own ≤ prio ts k) : thoseU highB ts own n = List.range n := by
  unfold thoseU
  rw [List.filter_eq_self]
  intro k hk
  have := h k (List.mem_range.1 hk)
  unfold highB
  simpa using this
/-- What the first k tasks take within a window of r. -/
def tkS (c : ConfV) (pl : Tks) (r k : Nat) : Nat := ((List.range k).map (fun j => cosI c pl j * sC r (perI pl j))).sum
theorem tkS_succ (c : ConfV) (pl : Tks) (r k : Nat) : tkS c pl r (k + 1) = tkS c pl r k + cosI c pl k * sC r (perI pl k) := by
  unfold tkS
  rw [List.range_succ, List.map_append, List.sum_append]
  simp
theorem tkS_le (c : ConfV) (pl : Tks) (r : Nat) {k n : Nat} (h : k ≤ n) : tkS c pl r k ≤ tkS c pl r n := by
  induction n with
  | zero => obtain rfl : k = 0 := by omega
            exact Nat.le_refl _
  | succ n ih =>
    by_cases hk : k = n + 1
    · rw [hk]; exact Nat.le_refl _
    · have := ih (by omega)
      rw [tkS_succ]
      omega
theorem ceil_up {r T : Nat} (hr : 1 ≤ r) (hr2 : r ≤ 16777216) (hT : 1 ≤ T) : 1 ≤ sC r T ∧ r ≤ T * sC r T := by
  have e : sC r T = (r - 1) / T + 1 := by unfold sC; rw [if_neg (by omega), if_neg (by omega)]
  rw [e]
  have := Nat.div_add_mod (r - 1) T
  have := Nat.mod_lt (r - 1) (show 0 < T by omega)
  rw [Nat.mul_add, Nat.mul_one]
  generalize (r - 1) / T = q at *
  omega
theorem cross {r o u T C a S : Nat} (h : r * o ≤ u * S) (ha : r ≤ T * a) : r * (o * T + C * u) ≤ (u * T) * (S + C * a) := by
  have h1 := Nat.mul_le_mul_right T h
  have h2 := Nat.mul_le_mul_left (C * u) ha
  have e1 : r * (o * T + C * u) = r * o * T + C * u * r := by rw [Nat.mul_add, ← Nat.mul_assoc r o T, Nat.mul_comm r (C * u)]
  have e2 : u * T * (S + C * a) = u * S * T + C * u * (T * a) := by
    rw [Nat.mul_add]
    congr 1
    · rw [Nat.mul_assoc, Nat.mul_comm T S, Nat.mul_assoc]
    · rw [Nat.mul_comm (u * T), Nat.mul_assoc C a, Nat.mul_assoc C u]
      congr 1
      rw [Nat.mul_comm a, Nat.mul_assoc]
  omega
theorem used_le {c : ConfV} {pl : Tks} {r n : Nat} (hr : 1 ≤ r) (hr2 : r ≤ 1048576) (hT : ∀ k, k < n → 1 ≤ perI pl k ∧ perI pl k ≤ 1048576) (hS : tkS c pl r n ≤ r) :
    ∀ k, k ≤ 3 → k ≤ n → r * (usdU c pl k).1 ≤ (usdU c pl k).2 * tkS c pl r k ∧ (usdU c pl k).1 ≤ (usdU c pl k).2 ∧ (usdU c pl k).2 ≤ 1048576 ^ k
  | 0, _, _ => by simp [usdU]
  | k + 1, h3, hn => by
    obtain ⟨h1, h2, h4⟩ := used_le hr hr2 hT hS k (by omega) (by omega)
    have hTk := hT k (by omega)
    have hc := ceil_up hr (by omega) hTk.1
    have hs1 := tkS_le c pl r (show k + 1 ≤ n by omega)
    rw [tkS_succ] at hs1
    have hC : cosI c pl k ≤ 1048576 := by
      have := Nat.mul_le_mul_left (cosI c pl k) hc.1
      omega
    have hcr := cross (C := cosI c pl k) h1 hc.2
    rw [← tkS_succ] at hcr
    rw [← tkS_succ] at hs1
    obtain ⟨o, ho⟩ : ∃ o, o = (usdU c pl k).1 := ⟨_, rfl⟩
    obtain ⟨u, hu⟩ : ∃ u, u = (usdU c pl k).2 := ⟨_, rfl⟩
    obtain ⟨T, hTe⟩ : ∃ T, T = perI pl k := ⟨_, rfl⟩
    obtain ⟨C, hCe⟩ : ∃ C, C = cosI c pl k := ⟨_, rfl⟩
    have hu3 : u ≤ 1099511627776 := by
      rw [← hu] at h4
      have : k = 0 ∨ k = 1 ∨ k = 2 := by omega
      rcases this with rfl | rfl | rfl <;> omega
    have e1 : (usdU c pl (k + 1)) = (sA (sM o T) (sM C u), sM u T) := by rw [ho, hu, hTe, hCe]; rfl
    rw [← ho, ← hu, ← hTe, ← hCe] at hcr
    rw [← ho, ← hu] at h2
    rw [← hu] at h4
    rw [← hTe] at hTk
    rw [← hCe] at hC
    have b1 : o * T ≤ 1152921504606846976 := by have := Nat.mul_le_mul (show o ≤ 1099511627776 by omega) hTk.2; omega
    have b2 : u * T ≤ 1152921504606846976 := by have := Nat.mul_le_mul hu3 hTk.2; omega
    have b3 : C * u ≤ 1152921504606846976 := by have := Nat.mul_le_mul hC hu3; omega
    have b4 : u * T ≤ 1048576 ^ (k + 1) := by rw [Nat.pow_succ]; exact Nat.mul_le_mul h4 hTk.2
    have f1 : sM o T = o * T := by unfold sM; rw [if_neg (by omega)]
    have f2 : sM u T = u * T := by unfold sM; rw [if_neg (by omega)]
    have f3 : sM C u = C * u := by unfold sM; rw [if_neg (by omega)]
    have f4 : sA (o * T) (C * u) = o * T + C * u := by unfold sA; rw [if_neg (by omega)]
    rw [e1, f1, f2, f3, f4]
    refine ⟨hcr, ?_, b4⟩
    have h5 : r * (o * T + C * u) ≤ r * (u * T) := by
      have := Nat.mul_le_mul_left (u * T) (Nat.le_trans hs1 hS)
      rw [Nat.mul_comm r (u * T)]
      omega
    exact Nat.le_of_mul_le_mul_left h5 (by omega)
theorem admitted_used {w : World} {c : ConfV} {d : ConfL} {pl : Tks} (hC : ConfIn w c d pl) (h3 : c.ta.n ≤ 3) (h : admB c d pl = true) : (usdE c d pl).1 ≤ (usdE c d pl).2 := by
  unfold admB at h
  simp only [Bool.and_eq_true, decide_eq_true_eq, Bool.not_eq_true'] at h
  obtain ⟨hz, hl⟩ := h
  have hF := Fin0.of_zero hz
  unfold usdE
  rw [if_pos hz]
  obtain ⟨i, hi, hp⟩ := least_prio pl.ts c.ta.n hF.n0
  have hli : lateI c d pl i = false := by
    unfold lateB at hl
    rw [List.any_eq_false] at hl
    simpa using hl i (List.mem_range.2 hi)
  obtain ⟨t, l, h1, h2, -⟩ := fine_at hC hF hi
  have hn := hF.nums hi h1
  have hde : ofU (dedI pl i) ≤ 1048576 := by
    have := ofU_eq (dedI pl i)
    rw [dedI_at h2, show max t.de 0 = t.de by omega, IntKind.wrap_u64] at this
    rw [dedI_at h2]
    omega
  have hre : orU (winI c d pl i) ≤ 1048576 := by
    unfold lateI at hli
    rw [decide_eq_false_iff_not] at hli
    have : (lineI c d pl i).re = orU (winI c d pl i) := rfl
    omega
  obtain ⟨r, hr⟩ : ∃ r, r = winI c d pl i := ⟨_, rfl⟩
  rw [← hr] at hre
  have hr0 : r ≠ 0 := fun e => by rw [e] at hre; simp [orU] at hre
  have hr2 : r ≤ 1048576 := by unfold orU at hre; rw [if_neg hr0] at hre; exact hre
  have hw := Bch.win_is (Bch.dem (dlyI c d pl i) (ldL c pl (prio pl.ts i))) 16777216
  have hwr : Bch.win (Bch.dem (dlyI c d pl i) (ldL c pl (prio pl.ts i))) 16777216 = r := hr.symm
  rw [hwr] at hw
  rcases hw with ⟨hw, -⟩ | ⟨h4, -, h6, -⟩
  · exact absurd hw hr0
  have hs := dem_sum r (ldL c pl (prio pl.ts i)) (dlyI c d pl i) (by omega)
  have he : ((ldL c pl (prio pl.ts i)).map (fun y => y.1 * sC r y.2)).sum = tkS c pl r c.ta.n := by
    unfold ldL tkS
    rw [those_all hp, List.map_map]
    rfl
  rw [he] at hs
  exact (used_le h4 hr2 (fun k hk => ⟨(perI_le hC hF hk).1, (perI_le hC hF hk).2.1⟩) (by omega) c.ta.n h3 (Nat.le_refl _)).2.1
set_option maxRecDepth 100000 in
set_option maxHeartbeats 8000000 in
theorem used28_any {w : World} {c : ConfV} {d : ConfL} {pl : Tks} (hw : Words w) (hC : ConfIn w c d pl) :
    Calls Tryz.prog 4 #[c.val] w (GrowB true w) := by
  obtain ⟨q, hq⟩ : ∃ q, q = w.heap.size := ⟨_, rfl⟩
  obtain ⟨W2, hW2⟩ : ∃ W2, W2 = w.alloc (.cells c.cells.toArray 27) := ⟨_, rfl⟩
  have hO2 : Only (fun _ => False) w W2 := by rw [hW2]; exact (Only.refl _ w).alloc _
  have b0 : W2.heap[q]? = some (.cells c.cells.toArray 27 (0, 0)) := by rw [hW2]; exact heap_new_at _ _ hq.symm
  have hq' := Lib.hid hq
  have hcy := Lib.hid (fun W (ho : Only (fun _ => False) W2 W) => cyv_of (ho.heap b0 (fun h => h)))
  obtain ⟨cv, hcv⟩ : ∃ cv, cv = c.val := ⟨_, rfl⟩
  obtain ⟨F, hF⟩ : ∃ F, F = fewB c pl.ts := ⟨_, rfl⟩
  obtain ⟨B, hB⟩ : ∃ B, B = admB c d pl := ⟨_, rfl⟩
  obtain ⟨o, ho⟩ : ∃ o, o = (usdE c d pl).1 := ⟨_, rfl⟩
  obtain ⟨u, hu⟩ : ∃ u, u = (usdE c d pl).2 := ⟨_, rfl⟩
  have cfew := Lib.hid (fun W (ho : Only (fun _ => False) W2 W) => show Calls Tryz.prog 6 #[cv] W (GrowB F W) from by rw [hcv, hF]; exact (hC.new (hO2.trans' ho)).few)
  have cadm := Lib.hid (fun (hf : F = true) W (ho : Only (fun _ => False) W2 W) => show Calls Tryz.prog 10 #[cv] W (GrowB B W) from by
    rw [hcv, hB]
    have h1 := hC.new (hO2.trans' ho)
    exact admitted_any (hw.new (hO2.trans' ho)) h1 (h1.conf (by rw [← hF]; exact hf)))
  have cusd := Lib.hid (fun (hf : F = true) W (h9 : Only (fun _ => False) W2 W) => show Calls Tryz.prog 8 #[cv] W (fun e w' => e = .returned (.tuple #[U o, U u]) ∧ Only (fun _ => False) W w') from by
    rw [hcv, ho, hu]
    have h1 := hC.new (hO2.trans' h9)
    exact used_any (hw.new (hO2.trans' h9)) h1 (h1.conf (by rw [← hF]; exact hf)))
  have hle := Lib.hid (fun (h3 : c.ta.n ≤ 3) (hb : B = true) => show o ≤ u from by rw [ho, hu]; exact admitted_used hC h3 (by rw [← hB]; exact hb))
  have cfx := Lib.hid (fixed28_any (hw.new hO2))
  obtain ⟨Z, hZ⟩ : ∃ Z, Z = GrowB true w := ⟨_, rfl⟩
  rw [← hZ]
  have hfin := Lib.hid (fun W (ho : Only (fun _ => False) W2 W) => show Z (.returned (.bool true)) W from by rw [hZ]; exact ⟨rfl, hO2.trans' ho⟩)
  rw [← hcv]
  unfold ConfV.val at hcv
  subst hcv
  unfold CYv at hcy
  unfold ConfV.cells at hW2
  have hW2' := Lib.hid hW2
  clear hZ hq hO2 b0 hW2 hC hw hF hB ho hu
  obtain ⟨c0, wy, h, mi, ⟨mA, mn, mc⟩, g, ⟨cA, cn, cc⟩, ⟨eA, en, ec⟩, ⟨tA, tn, tc⟩, ⟨lA, ln, lc⟩⟩ := c
  dsimp only at *
  obtain ⟨d0, d1, d2, d3, d4, d5, d6, d7, d8, d9, dl⟩ := hcy.out W2 (Only.refl _ _)
  go_enter Tryz.func4, Tryz.ntmps4
  go_upto_region 1 with fail
  rw [← hq'.out]
  rw [← hW2'.out]
  clear d0 d1 d2 d3 d4 d5 d6 d7 d8 d9 dl
  go_wp2_with fail
  refine cfx.out.mono ?_
  rintro e w3 ⟨rfl, ho⟩
  have hO3 := Lib.hid ho
  clear ho cfx
  obtain ⟨d0, d1, d2, d3, d4, d5, d6, d7, d8, d9, dl⟩ := hcy.out w3 hO3.out
  go_wp2_with fail
  refine (cfew.out w3 hO3.out).mono ?_
  rintro e w4 ⟨rfl, ho⟩
  have hO4 := Lib.hid (hO3.out.trans' ho)
  clear ho d0 d1 d2 d3 d4 d5 d6 d7 d8 d9 dl
  cases F with
  | false =>
    have hf := Lib.hid (hfin.out w4 hO4.out)
    go_wp2
    exact hf.out
  | true =>
    obtain ⟨d0, d1, d2, d3, d4, d5, d6, d7, d8, d9, dl⟩ := hcy.out w4 hO4.out
    by_cases h3 : tn ≤ 3
    · have h3' : ¬ (3 : Int) < (tn : Int) := by omega
      go_wp2_with fail
      refine (cadm.out trivial w4 hO4.out).mono ?_
      rintro e w5 ⟨rfl, ho⟩
      have hO5 := Lib.hid (hO4.out.trans' ho)
      clear ho d0 d1 d2 d3 d4 d5 d6 d7 d8 d9 dl
      cases B with
      | false =>
        have hf := Lib.hid (hfin.out w5 hO5.out)
        go_wp2
        exact hf.out
      | true =>
        obtain ⟨d0, d1, d2, d3, d4, d5, d6, d7, d8, d9, dl⟩ := hcy.out w5 hO5.out
        go_wp2_with fail
        refine (cusd.out trivial w5 hO5.out).mono ?_
        rintro e w6 ⟨rfl, ho⟩
        have hf := Lib.hid (hfin.out w6 (hO5.out.trans' ho))
        have hou : ¬ (u : Int) < (o : Int) := by have := hle.out h3 trivial; omega
        have hou' : (o : Int) ≤ (u : Int) := by omega
        clear ho d0 d1 d2 d3 d4 d5 d6 d7 d8 d9 dl
        go_wp2
        exact hf.out
    · have h3' : (3 : Int) < (tn : Int) := by omega
      have hf := Lib.hid (hfin.out w4 hO4.out)
      go_wp2
      exact hf.out
theorem used28_law (c : ConfV) (W : World) (hw : Words W) (g0 : ∃ (dd : ConfL) (pl : Tks), ConfIn W c dd pl) :
    Calls Tryz.prog 4 #[c.val] W fun e w' => e = .returned (.bool true) ∧ Below W.heap.size W w' := by
  obtain ⟨dd, pl, hC⟩ := g0
  exact (used28_any hw hC).mono fun e w' ⟨he, hO⟩ => ⟨he, hO.below (Nat.le_refl _) (fun _ h => h.elim)⟩
end Adm
end Go.Proofs.YtdoimkmhincmmaaGreatDoor
