/- HyperDivides, HyperShares: the walks. -/
import Derived.Test.YtkolbaadakhciaaHy6
namespace Go.Proofs.Ytkolbaadakhciaa
namespace Hyp
open Go Go.RowKit
open Bch (U sA sM sA_le sM_le ret_u mul_any add_any mul64_any)

theorem lcmS_small {a b : Nat} (ha : a ≤ 4294967295) (hb : b ≤ 4294967295) (h0 : a ≠ 0) (h1 : b ≠ 0) : lcmS a b = a / Nat.gcd a b * b ∧ a / Nat.gcd a b * b ≤ 18446744065119617025 := by
  have h2 : a / Nat.gcd a b ≤ 4294967295 := Nat.le_trans (Nat.div_le_self _ _) ha
  have h3 : a / Nat.gcd a b * b ≤ 4294967295 * 4294967295 := Nat.mul_le_mul h2 hb
  refine ⟨?_, by omega⟩
  unfold lcmS sM
  rw [if_neg (by omega), if_neg (by omega)]

set_option maxRecDepth 100000 in
set_option maxHeartbeats 4000000 in
theorem divides (a0 a1 : Int) (w : World) (h0 : (Lit.int .u32 a0).wf = true) (h1 : (Lit.int .u32 a1).wf = true) :
    Calls Try.prog 5 #[.int .u32 a0, .int .u32 a1] w fun e w' => e = .returned (.bool true) ∧ Below w.heap.size w w' := by
  have b0 := bounds_u32 h0
  have b1 := bounds_u32 h1
  obtain ⟨a, rfl⟩ : ∃ n : Nat, a0 = (n : Int) := ⟨a0.toNat, by omega⟩
  obtain ⟨b, rfl⟩ : ∃ n : Nat, a1 = (n : Int) := ⟨a1.toNat, by omega⟩
  have ha : a ≤ 4294967295 := by omega
  have hb : b ≤ 4294967295 := by omega
  obtain ⟨Z, hZ⟩ : ∃ Z : Ending → World → Prop, Z = fun e w' => e = .returned (.bool true) ∧ Below w.heap.size w w' := ⟨_, rfl⟩
  rw [← hZ]
  have hfin := Lib.hid (fun W (ho : Only (fun _ => False) w W) => show Z (.returned (.bool true)) W from by rw [hZ]; exact ⟨rfl, ho.below (Nat.le_refl _) (fun _ h => h.elim)⟩)
  have qf := Lib.hid fixed_any
  have q1 := Lib.hid (fun W => show Calls Try.prog 12 #[U a, U b] W fun e w' => e = .returned (U (Nat.gcd a b)) ∧ Only (fun _ => False) W w' from gcd_any a b W (by omega) (by omega))
  have q3 := Lib.hid (fun W => show Calls Try.prog 14 #[U a, U b] W fun e w' => e = .returned (U (lcmS a b)) ∧ Only (fun _ => False) W w' from lcm_any a b W (by omega) (by omega))
  clear hZ h0 h1
  by_cases ha0 : a = 0
  · subst ha0
    have e1 : Nat.gcd 0 b = b := Nat.gcd_zero_left b
    have e2 : lcmS 0 b = 0 := by simp [lcmS]
    rw [e1] at q1
    rw [e2] at q3
    clear e1 e2
    go_enter Try.func5, Try.ntmps5
    go_wp2_with (first | (go_at_call 10; with_reducible refine (qf.out _).mono ?_; rintro e w1 ⟨rfl, h1⟩; have h1' := Lib.hid h1; clear h1) | (go_at_call 12; refine (q1.out _).mono ?_; rintro e w2 ⟨rfl, h2⟩; have h2' := Lib.hid h2; clear h2) | (go_at_call 14; refine (q3.out _).mono ?_; rintro e w4 ⟨rfl, h4⟩; have h4' := Lib.hid h4; clear h4))
    exact hfin.out _ ((h1'.out.trans' h2'.out).trans' h4'.out)
  have ha1 : ((a : Int) == 0) = false := by simpa using ha0
  by_cases hb0 : b = 0
  · subst hb0
    have e1 : Nat.gcd a 0 = a := Nat.gcd_zero_right a
    have e2 : lcmS a 0 = 0 := by simp [lcmS]
    rw [e1] at q1
    rw [e2] at q3
    clear e1 e2
    go_enter Try.func5, Try.ntmps5
    go_wp2_with (first | (go_at_call 10; with_reducible refine (qf.out _).mono ?_; rintro e w1 ⟨rfl, h1⟩; have h1' := Lib.hid h1; clear h1) | (go_at_call 12; refine (q1.out _).mono ?_; rintro e w2 ⟨rfl, h2⟩; have h2' := Lib.hid h2; clear h2) | (go_at_call 14; refine (q3.out _).mono ?_; rintro e w4 ⟨rfl, h4⟩; have h4' := Lib.hid h4; clear h4))
    exact hfin.out _ ((h1'.out.trans' h2'.out).trans' h4'.out)
  have hb1 : ((b : Int) == 0) = false := by simpa using hb0
  obtain ⟨hl, hl9⟩ := lcmS_small ha hb ha0 hb0
  obtain ⟨g, hg⟩ : ∃ g, g = Nat.gcd a b := ⟨_, rfl⟩
  have hgp : 0 < g := by rw [hg]; exact Nat.gcd_pos_of_pos_left _ (by omega)
  have ga : g ∣ a := hg ▸ Nat.gcd_dvd_left _ _
  have gb : g ∣ b := hg ▸ Nat.gcd_dvd_right _ _
  rw [← hg] at hl hl9
  have k1 : a % g = 0 := Nat.mod_eq_zero_of_dvd ga
  have k2 : b % g = 0 := Nat.mod_eq_zero_of_dvd gb
  have e3 : g * (a / g * b) = a * b := by rw [← Nat.mul_assoc, Nat.mul_div_cancel' ga]
  have k3 : (a / g * b) % a = 0 := by
    refine Nat.mod_eq_zero_of_dvd ⟨b / g, ?_⟩
    refine Nat.eq_of_mul_eq_mul_left hgp ?_
    rw [e3, Nat.mul_left_comm, Nat.mul_div_cancel' gb]
  have k4 : (a / g * b) % b = 0 := Nat.mod_eq_zero_of_dvd ⟨a / g, Nat.mul_comm _ _⟩
  have k5 : a * b ≤ 4294967295 * 4294967295 := Nat.mul_le_mul ha hb
  rw [← hg] at q1
  rw [hl] at q3
  obtain ⟨m, hm⟩ : ∃ m, m = a / g * b := ⟨_, rfl⟩
  rw [← hm] at q3 e3 k3 k4 hl9
  obtain ⟨p, hp⟩ : ∃ p, p = a * b := ⟨_, rfl⟩
  rw [← hp] at e3 k5
  have p1 : (a : Int) % (g : Int) = 0 := by omega
  have p2 : (b : Int) % (g : Int) = 0 := by omega
  have p3 : (m : Int) % (a : Int) = 0 := by omega
  have p4 : (m : Int) % (b : Int) = 0 := by omega
  have p5 : (a : Int) * (b : Int) = (p : Int) := by rw [hp]; simp
  have p6 : (g : Int) * (m : Int) = (p : Int) := by rw [← e3]; simp
  have p7 : (0 : Int) < g := by omega
  have n1 : (g : Int) ≠ 0 := by omega
  have n2 : (a : Int) ≠ 0 := by omega
  have n3 : (b : Int) ≠ 0 := by omega
  have hga : g ≤ a := Nat.le_of_dvd (by omega) ga
  clear hg ga gb hl k1 k2 k3 k4 e3 hm hp b0 b1
  go_enter Try.func5, Try.ntmps5
  go_wp2_with (first | (go_at_call 10; with_reducible refine (qf.out _).mono ?_; rintro e w1 ⟨rfl, h1⟩; have h1' := Lib.hid h1; clear h1) | (go_at_call 12; with_reducible refine (q1.out _).mono ?_; rintro e w2 ⟨rfl, h2⟩; have h2' := Lib.hid h2; clear h2) | (go_at_call 14; with_reducible refine (q3.out _).mono ?_; rintro e w4 ⟨rfl, h4⟩; have h4' := Lib.hid h4; clear h4))
  exact hfin.out _ ((h1'.out.trans' h2'.out).trans' h4'.out)

theorem share_val {H : Type} {enc : TypeId × Value → H} {w : World} {r : Reach} {b0 : Nat} {v : Value} {d : DataW H} {p : List MemPlace} (hv : Value.okWide Try.prog w r b0 29 v) (h : DataW.Trod enc Try.prog w 0 (fun _ => true) true 29 v d p) :
    ∃ x : Nat × Nat, v = Sh x.1 x.2 ∧ x.1 ≤ 18446744073709551615 ∧ x.2 ≤ 18446744073709551615 := by
  obtain ⟨l, rfl, hl, hall⟩ := open_struct Try.underlying29 (by kernel_rfl) (fun i f hi => by
    match i, hi with
    | 0, hi => cases hi; exact ⟨rfl, by kernel_rfl⟩
    | 1, hi => cases hi; exact ⟨rfl, by kernel_rfl⟩
    | i + 2, hi => simp at hi) hv h
  obtain ⟨u0, y0, n0, e0, t0⟩ := hall 0 _ rfl
  obtain ⟨u1, y1, n1, e1, t1⟩ := hall 1 _ rfl
  obtain ⟨z0, k0, -, w0⟩ := DataW.trod_int Try.underlying22 t0
  obtain ⟨z1, k1, -, w1⟩ := DataW.trod_int Try.underlying22 t1
  simp only [List.cons.injEq, and_true] at k0 k1
  subst k0 k1
  obtain ⟨m0, rfl, h0⟩ := nat_of w0
  obtain ⟨m1, rfl, h1⟩ := nat_of w1
  match l, hl with
  | [x, y], _ =>
    cases e0
    cases e1
    exact ⟨(m0, m1), rfl, h0, h1⟩

set_option maxRecDepth 100000 in
set_option maxHeartbeats 4000000 in
theorem shares (x y : Nat × Nat) (w : World) (hx : x.1 ≤ 18446744073709551615 ∧ x.2 ≤ 18446744073709551615) (hy : y.1 ≤ 18446744073709551615 ∧ y.2 ≤ 18446744073709551615) :
    Calls Try.prog 4 #[Sh x.1 x.2, Sh y.1 y.2] w fun e w' => e = .returned (.bool true) ∧ Below w.heap.size w w' := by
  obtain ⟨a, b⟩ := x
  obtain ⟨c, d⟩ := y
  obtain ⟨ha, hb⟩ := hx
  obtain ⟨hc, hd⟩ := hy
  dsimp only at ha hb hc hd ⊢
  obtain ⟨Z, hZ⟩ : ∃ Z : Ending → World → Prop, Z = fun e w' => e = .returned (.bool true) ∧ Below w.heap.size w w' := ⟨_, rfl⟩
  rw [← hZ]
  have hfin := Lib.hid (fun W (ho : Only (fun _ => False) w W) => show Z (.returned (.bool true)) W from by rw [hZ]; exact ⟨rfl, ho.below (Nat.le_refl _) (fun _ h => h.elim)⟩)
  have qf := Lib.hid fixed_any
  have c1 := Lib.hid (fun W => show Calls Try.prog 16 #[U a, U b, U c, U d] W fun e w' => e = .returned (.tuple #[U (adA a b c d), U (adB a b c d)]) ∧ Only (fun _ => False) W w' from radd_any a b c d W ha hb hc hd)
  have c2 := Lib.hid (fun W => show Calls Try.prog 17 #[U a, U b] W fun e w' => e = .returned (.tuple #[U (smA a b), U (smB a b)]) ∧ Only (fun _ => False) W w' from rsimple_any a b W ha hb)
  have c3 := Lib.hid (fun W => show Calls Try.prog 18 #[Sh a b, Sh c d] W fun e w' => e = .returned (.bool (lessB a b c d)) ∧ Only (fun _ => False) W w' from less_any a b c d W ha hb hc hd)
  have c4 := Lib.hid (fun W => show Calls Try.prog 19 #[U a, U b, U c, U d] W fun e w' => e = .returned (.bool (lessB a b c d)) ∧ Only (fun _ => False) W w' from rless_any _ a b c d W (Nat.le_refl _) ha hb hc hd)
  have c5 := Lib.hid (fun W => show Calls Try.prog 20 #[Sh a b, Sh c d] W fun e w' => e = .returned (Sh (adA a b c d) (adB a b c d)) ∧ Only (fun _ => False) W w' from add2_any a b c d W ha hb hc hd)
  have c6 := Lib.hid (fun W => show Calls Try.prog 21 #[Sh a b] W fun e w' => e = .returned (Sh (smA a b) (smB a b)) ∧ Only (fun _ => False) W w' from simple_any a b W ha hb)
  obtain ⟨s1, hs1⟩ : ∃ s, s = adA a b c d := ⟨_, rfl⟩
  obtain ⟨s2, hs2⟩ : ∃ s, s = adB a b c d := ⟨_, rfl⟩
  obtain ⟨s3, hs3⟩ : ∃ s, s = smA a b := ⟨_, rfl⟩
  obtain ⟨s4, hs4⟩ : ∃ s, s = smB a b := ⟨_, rfl⟩
  obtain ⟨B, hB⟩ : ∃ s, s = lessB a b c d := ⟨_, rfl⟩
  rw [← hs1, ← hs2] at c1 c5
  rw [← hs3, ← hs4] at c2 c6
  rw [← hB] at c3 c4
  obtain ⟨W2, hW2⟩ : ∃ W2, W2 = (w.alloc (.cells #[U a, U b] 29)).alloc (.cells #[U c, U d] 29) := ⟨_, rfl⟩
  obtain ⟨q, hq⟩ : ∃ q, q = w.heap.size := ⟨_, rfl⟩
  have hO2 : Only (fun _ => False) w W2 := by rw [hW2]; exact ((Only.refl _ w).alloc _).alloc _
  have b0 : W2.heap[q]? = some (.cells [U a, U b].toArray 29 (0, 0)) := by rw [hW2]; exact heap_kept_alloc (heap_new_at _ _ hq.symm) _
  have b1 : W2.heap[q + 1]? = some (.cells [U c, U d].toArray 29 (0, 0)) := by rw [hW2]; exact heap_new_at _ _ (by simp [hq])
  have hr := Lib.hid (fun W (ho : Only (fun _ => False) W2 W) => (⟨row_cell (ho.heap b0 (fun h => h)) (i := 0) rfl, row_cell (ho.heap b0 (fun h => h)) (i := 1) rfl, row_cell (ho.heap b1 (fun h => h)) (i := 0) rfl, row_cell (ho.heap b1 (fun h => h)) (i := 1) rfl⟩ : W.cell? ⟨q, 0, none⟩ = some (U a) ∧ W.cell? ⟨q, 1, none⟩ = some (U b) ∧ W.cell? ⟨q + 1, 0, none⟩ = some (U c) ∧ W.cell? ⟨q + 1, 1, none⟩ = some (U d)))
  have hO2' := Lib.hid hO2
  have hq' := Lib.hid hq
  have hW2' := Lib.hid hW2
  clear hZ hs1 hs2 hs3 hs4 hB hO2 b0 b1 hq hW2
  go_enter Try.func4, Try.ntmps4
  go_wp2_with fail
  rw [← hq'.out]
  rw [← hW2'.out]
  go_wp2_with (first | (go_at_call 10; with_reducible refine (qf.out _).mono ?_; rintro e w3 ⟨rfl, h3⟩; obtain ⟨x0, x1, x2, x3⟩ := hr.out _ h3; have h3' := Lib.hid h3; clear h3) | (go_at_call 16; with_reducible refine (c1.out _).mono ?_; rintro e w4 ⟨rfl, h4⟩; obtain ⟨y0, y1, y2, y3⟩ := hr.out _ (h3'.out.trans' h4); have h4' := Lib.hid (h3'.out.trans' h4); clear h4) | (go_at_call 17; with_reducible refine (c2.out _).mono ?_; rintro e w5 ⟨rfl, h5⟩; obtain ⟨z0, z1, z2, z3⟩ := hr.out _ (h4'.out.trans' h5); have h5' := Lib.hid (h4'.out.trans' h5); clear h5))
  have p0 := wd_cell z0
  have p1 := wd_cell z1
  have p2 := wd_cell z2
  have p3 := wd_cell z3
  have q3 := Lib.hid (fun (x : Wd w5) => Calls.wd (x := x) (c3.out x.W))
  have q4 := Lib.hid (fun (x : Wd w5) => Calls.wd (x := x) (c4.out x.W))
  have q5 := Lib.hid (fun (x : Wd w5) => Calls.wd (x := x) (c5.out x.W))
  have q6 := Lib.hid (fun (x : Wd w5) => Calls.wd (x := x) (c6.out x.W))
  have hex := wd_ex w5
  clear c1 c2 c3 c4 c5 c6 x0 x1 x2 x3 y0 y1 y2 y3 z0 z1 z2 z3
  refine wp_region_wd (by kernel_rfl) (by kernel_rfl) ?_
  repeat (go_big_quiet_step (first | (go_at_call 18; with_reducible exact q3.out _) | (go_at_call 19; with_reducible exact q4.out _) | (go_at_call 20; with_reducible exact q5.out _) | (go_at_call 21; with_reducible exact q6.out _)))
  refine wpQuiet_nil ?_
  rintro _ ⟨v, rfl⟩
  have hf := Lib.hid (hfin.out v.W (hO2'.out.trans' (h5'.out.trans' v.ok)))
  go_wp2
  exact hf.out
end Hyp
end Go.Proofs.Ytkolbaadakhciaa
