/- HyperOrders: the walk. -/
import Derived.Test.YtkolbaadakhciaaHy7
namespace Go.Proofs.Ytkolbaadakhciaa
namespace Hyp
open Go Go.RowKit
open Bch (U sA sM sA_le sM_le ret_u mul_any add_any mul64_any)

theorem lessB_iff {a b c d : Nat} : lessB a b c d = true ↔ b ≠ 0 ∧ (d = 0 ∨ a * d < c * b) := by unfold lessB; exact decide_eq_true_iff
theorem less_irr (a b : Nat) : lessB a b a b = false := by
  by_cases h : lessB a b a b = true
  · have := lessB_iff.1 h
    omega
  · simpa using h
theorem less_asym {a b c d : Nat} (h : lessB a b c d = true) : lessB c d a b = false := by
  by_cases k : lessB c d a b = true
  · have h1 := lessB_iff.1 h
    have h2 := lessB_iff.1 k
    omega
  · simpa using k
theorem less_trans {a b c d e f : Nat} (h : lessB a b c d = true) (k : lessB c d e f = true) : lessB a b e f = true := by
  obtain ⟨h0, h1⟩ := lessB_iff.1 h
  obtain ⟨k0, k1⟩ := lessB_iff.1 k
  refine lessB_iff.2 ⟨h0, ?_⟩
  by_cases hf : f = 0
  · exact .inl hf
  · right
    have h2 : a * d < c * b := by omega
    have k2 : c * f < e * d := by omega
    have e1 : a * d * f < c * b * f := Nat.mul_lt_mul_of_pos_right h2 (by omega)
    have e2 : c * f * b < e * d * b := Nat.mul_lt_mul_of_pos_right k2 (by omega)
    have e3 : c * b * f = c * f * b := by rw [Nat.mul_assoc, Nat.mul_assoc, Nat.mul_comm b f]
    have e4 : (a * f) * d < (e * b) * d := by
      rw [Nat.mul_assoc a f d, Nat.mul_comm f d, ← Nat.mul_assoc a d f, Nat.mul_assoc e b d, Nat.mul_comm b d, ← Nat.mul_assoc e d b]
      omega
    exact Nat.lt_of_mul_lt_mul_right e4
/-- Neither is less: the same in lowest terms. -/
theorem less_same {a b c d : Nat} (h : lessB a b c d = false) (k : lessB c d a b = false) : smA a b = smA c d ∧ smB a b = smB c d := by
  have h' : ¬ (b ≠ 0 ∧ (d = 0 ∨ a * d < c * b)) := fun x => by rw [lessB_iff.2 x] at h; cases h
  have k' : ¬ (d ≠ 0 ∧ (b = 0 ∨ c * b < a * d)) := fun x => by rw [lessB_iff.2 x] at k; cases k
  unfold smA smB
  by_cases hb : b = 0
  · by_cases hd : d = 0
    · rw [if_pos hb, if_pos hb, if_pos hd, if_pos hd]; exact ⟨rfl, rfl⟩
    · exact absurd ⟨hd, .inl hb⟩ k'
  by_cases hd : d = 0
  · exact absurd ⟨hb, .inl hd⟩ h'
  rw [if_neg hb, if_neg hb, if_neg hd, if_neg hd]
  have he : a * d = c * b := by
    have h2 : ¬ a * d < c * b := fun x => h' ⟨hb, .inr x⟩
    have k2 : ¬ c * b < a * d := fun x => k' ⟨hd, .inr x⟩
    omega
  have g1 : 0 < Nat.gcd a b := Nat.gcd_pos_of_pos_right _ (by omega)
  have g2 : 0 < Nat.gcd c d := Nat.gcd_pos_of_pos_right _ (by omega)
  have c1 : Nat.Coprime (a / Nat.gcd a b) (b / Nat.gcd a b) := Nat.coprime_div_gcd_div_gcd g1
  have c2 : Nat.Coprime (c / Nat.gcd c d) (d / Nat.gcd c d) := Nat.coprime_div_gcd_div_gcd g2
  have ea : Nat.gcd a b * (a / Nat.gcd a b) = a := Nat.mul_div_cancel' (Nat.gcd_dvd_left _ _)
  have eb : Nat.gcd a b * (b / Nat.gcd a b) = b := Nat.mul_div_cancel' (Nat.gcd_dvd_right _ _)
  have ec : Nat.gcd c d * (c / Nat.gcd c d) = c := Nat.mul_div_cancel' (Nat.gcd_dvd_left _ _)
  have ed : Nat.gcd c d * (d / Nat.gcd c d) = d := Nat.mul_div_cancel' (Nat.gcd_dvd_right _ _)
  generalize Nat.gcd a b = g at *
  generalize Nat.gcd c d = f at *
  generalize a / g = A at *
  generalize b / g = B at *
  generalize c / f = C at *
  generalize d / f = D at *
  subst ea eb ec ed
  have hx : A * D = C * B := by
    have e1 : g * A * (f * D) = (g * f) * (A * D) := by rw [Nat.mul_assoc, Nat.mul_left_comm A f D, ← Nat.mul_assoc]
    have e2 : f * C * (g * B) = (g * f) * (C * B) := by rw [Nat.mul_assoc, Nat.mul_left_comm C g B, ← Nat.mul_assoc, Nat.mul_comm f g]
    rw [e1, e2] at he
    exact Nat.eq_of_mul_eq_mul_left (Nat.mul_pos g1 g2) he
  constructor
  · refine Nat.dvd_antisymm ?_ ?_
    · exact c1.dvd_of_dvd_mul_right (show A ∣ C * B from hx ▸ Nat.dvd_mul_right _ _)
    · exact c2.dvd_of_dvd_mul_right (show C ∣ A * D from hx ▸ Nat.dvd_mul_right _ _)
  · refine Nat.dvd_antisymm ?_ ?_
    · exact c1.symm.dvd_of_dvd_mul_left (show B ∣ A * D from hx ▸ Nat.dvd_mul_left _ _)
    · exact c2.symm.dvd_of_dvd_mul_left (show D ∣ C * B from hx ▸ Nat.dvd_mul_left _ _)

set_option maxRecDepth 100000 in
set_option maxHeartbeats 4000000 in
theorem orders (x y z : Nat × Nat) (w : World) (hx : x.1 ≤ 18446744073709551615 ∧ x.2 ≤ 18446744073709551615) (hy : y.1 ≤ 18446744073709551615 ∧ y.2 ≤ 18446744073709551615) (hz : z.1 ≤ 18446744073709551615 ∧ z.2 ≤ 18446744073709551615) :
    Calls Try.prog 6 #[Sh x.1 x.2, Sh y.1 y.2, Sh z.1 z.2] w fun e w' => e = .returned (.bool true) ∧ Below w.heap.size w w' := by
  obtain ⟨a, b⟩ := x
  obtain ⟨c, d⟩ := y
  obtain ⟨e, f⟩ := z
  obtain ⟨ha, hb⟩ := hx
  obtain ⟨hc, hd⟩ := hy
  obtain ⟨he, hf⟩ := hz
  dsimp only at ha hb hc hd he hf ⊢
  obtain ⟨Z, hZ⟩ : ∃ Z : Ending → World → Prop, Z = fun e w' => e = .returned (.bool true) ∧ Below w.heap.size w w' := ⟨_, rfl⟩
  rw [← hZ]
  have hfin := Lib.hid (fun W (ho : Only (fun _ => False) w W) => show Z (.returned (.bool true)) W from by rw [hZ]; exact ⟨rfl, ho.below (Nat.le_refl _) (fun _ h => h.elim)⟩)
  have qf := Lib.hid fixed_any
  have c1 := Lib.hid (fun W => show Calls Try.prog 18 #[Sh a b, Sh c d] W fun e w' => e = .returned (.bool (lessB a b c d)) ∧ Only (fun _ => False) W w' from less_any a b c d W ha hb hc hd)
  have c2 := Lib.hid (fun W => show Calls Try.prog 18 #[Sh c d, Sh a b] W fun e w' => e = .returned (.bool (lessB c d a b)) ∧ Only (fun _ => False) W w' from less_any c d a b W hc hd ha hb)
  have c3 := Lib.hid (fun W => show Calls Try.prog 18 #[Sh a b, Sh a b] W fun e w' => e = .returned (.bool false) ∧ Only (fun _ => False) W w' from by rw [← less_irr a b]; exact less_any a b a b W ha hb ha hb)
  have c4 := Lib.hid (fun W => show Calls Try.prog 18 #[Sh c d, Sh e f] W fun e' w' => e' = .returned (.bool (lessB c d e f)) ∧ Only (fun _ => False) W w' from less_any c d e f W hc hd he hf)
  have c5 := Lib.hid (fun W => show Calls Try.prog 18 #[Sh a b, Sh e f] W fun e' w' => e' = .returned (.bool (lessB a b e f)) ∧ Only (fun _ => False) W w' from less_any a b e f W ha hb he hf)
  have c6 := Lib.hid (fun W => show Calls Try.prog 21 #[Sh a b] W fun e w' => e = .returned (Sh (smA a b) (smB a b)) ∧ Only (fun _ => False) W w' from simple_any a b W ha hb)
  have c7 := Lib.hid (fun W => show Calls Try.prog 21 #[Sh c d] W fun e w' => e = .returned (Sh (smA c d) (smB c d)) ∧ Only (fun _ => False) W w' from simple_any c d W hc hd)
  have f1 : lessB a b c d = true → lessB c d a b = false := less_asym
  have f2 : lessB a b c d = true → lessB c d e f = true → lessB a b e f = true := less_trans
  have f3 : lessB a b c d = false → lessB c d a b = false → smA a b = smA c d ∧ smB a b = smB c d := less_same
  obtain ⟨s1, hs1⟩ : ∃ s, s = smA a b := ⟨_, rfl⟩
  obtain ⟨s2, hs2⟩ : ∃ s, s = smB a b := ⟨_, rfl⟩
  obtain ⟨s3, hs3⟩ : ∃ s, s = smA c d := ⟨_, rfl⟩
  obtain ⟨s4, hs4⟩ : ∃ s, s = smB c d := ⟨_, rfl⟩
  obtain ⟨B1, hB1⟩ : ∃ s, s = lessB a b c d := ⟨_, rfl⟩
  obtain ⟨B2, hB2⟩ : ∃ s, s = lessB c d a b := ⟨_, rfl⟩
  obtain ⟨B3, hB3⟩ : ∃ s, s = lessB c d e f := ⟨_, rfl⟩
  obtain ⟨B4, hB4⟩ : ∃ s, s = lessB a b e f := ⟨_, rfl⟩
  rw [← hs1, ← hs2] at c6
  rw [← hs3, ← hs4] at c7
  rw [← hs1, ← hs2, ← hs3, ← hs4] at f3
  rw [← hB1] at c1 f1 f2 f3
  rw [← hB2] at c2 f1 f3
  rw [← hB3] at c4 f2
  rw [← hB4] at c5 f2
  obtain ⟨W3, hW3⟩ : ∃ W2, W2 = ((w.alloc (.cells #[U a, U b] 29)).alloc (.cells #[U c, U d] 29)).alloc (.cells #[U e, U f] 29) := ⟨_, rfl⟩
  obtain ⟨q, hq⟩ : ∃ q, q = w.heap.size := ⟨_, rfl⟩
  have hO3 : Only (fun _ => False) w W3 := by rw [hW3]; exact (((Only.refl _ w).alloc _).alloc _).alloc _
  have b0 : W3.heap[q]? = some (.cells [U a, U b].toArray 29 (0, 0)) := by rw [hW3]; exact heap_kept_alloc (heap_kept_alloc (heap_new_at _ _ hq.symm) _) _
  have b1 : W3.heap[q + 1]? = some (.cells [U c, U d].toArray 29 (0, 0)) := by rw [hW3]; exact heap_kept_alloc (heap_new_at _ _ (by simp [hq])) _
  have b2 : W3.heap[q + 1 + 1]? = some (.cells [U e, U f].toArray 29 (0, 0)) := by rw [hW3]; exact heap_new_at _ _ (by simp [hq])
  have hr := Lib.hid (fun W (ho : Only (fun _ => False) W3 W) => (⟨row_cell (ho.heap b0 (fun h => h)) (i := 0) rfl, row_cell (ho.heap b0 (fun h => h)) (i := 1) rfl, row_cell (ho.heap b1 (fun h => h)) (i := 0) rfl, row_cell (ho.heap b1 (fun h => h)) (i := 1) rfl, row_cell (ho.heap b2 (fun h => h)) (i := 0) rfl, row_cell (ho.heap b2 (fun h => h)) (i := 1) rfl⟩ : W.cell? ⟨q, 0, none⟩ = some (U a) ∧ W.cell? ⟨q, 1, none⟩ = some (U b) ∧ W.cell? ⟨q + 1, 0, none⟩ = some (U c) ∧ W.cell? ⟨q + 1, 1, none⟩ = some (U d) ∧ W.cell? ⟨q + 1 + 1, 0, none⟩ = some (U e) ∧ W.cell? ⟨q + 1 + 1, 1, none⟩ = some (U f)))
  have hO3' := Lib.hid hO3
  have hq' := Lib.hid hq
  have hW3' := Lib.hid hW3
  clear hZ hs1 hs2 hs3 hs4 hB1 hB2 hB3 hB4 hO3 b0 b1 b2 hq hW3
  cases B1 with
  | true =>
    have e2 := f1 rfl
    subst e2
    cases B3 with
    | true =>
      have e4 := f2 rfl rfl
      subst e4
      clear f1 f2 f3
      go_enter Try.func6, Try.ntmps6
      go_wp2_with fail
      rw [← hq'.out]
      rw [← hW3'.out]
      go_wp2_with (go_at_call 10; with_reducible refine (qf.out _).mono ?_; rintro e w3 ⟨rfl, h3⟩; obtain ⟨x0, x1, x2, x3, x4, x5⟩ := hr.out _ h3; have h3' := Lib.hid h3; clear h3)
      have p0 := wd_cell x0
      have p1 := wd_cell x1
      have p2 := wd_cell x2
      have p3 := wd_cell x3
      have q1 := Lib.hid (fun (x : Wd w3) => Calls.wd (x := x) (c1.out x.W))
      have q2 := Lib.hid (fun (x : Wd w3) => Calls.wd (x := x) (c2.out x.W))
      have hex := wd_ex w3
      refine wp_region_wd (by kernel_rfl) (by kernel_rfl) ?_
      repeat (go_big_quiet_step (first | (go_at_call 18; with_reducible exact q1.out _) | (go_at_call 18; with_reducible exact q2.out _)))
      refine wpQuiet_nil ?_
      rintro _ ⟨v, rfl⟩
      obtain ⟨w4, h4⟩ : ∃ w4, w4 = v.W := ⟨_, rfl⟩
      have h4' := Lib.hid (show Only (fun _ => False) W3 w4 from h4 ▸ h3'.out.trans' v.ok)
      rw [← h4]
      clear q1 q2 hex p0 p1 p2 p3 x0 x1 x2 x3 x4 x5 h4
      obtain ⟨x0, x1, x2, x3, x4, x5⟩ := hr.out _ h4'.out
      have p0 := wd_cell x0
      have p1 := wd_cell x1
      have p2 := wd_cell x2
      have p3 := wd_cell x3
      have p4 := wd_cell x4
      have p5 := wd_cell x5
      have q3 := Lib.hid (fun (x : Wd w4) => Calls.wd (x := x) (c3.out x.W))
      have q4 := Lib.hid (fun (x : Wd w4) => Calls.wd (x := x) (c4.out x.W))
      have q5 := Lib.hid (fun (x : Wd w4) => Calls.wd (x := x) (c5.out x.W))
      have q6 := Lib.hid (fun (x : Wd w4) => Calls.wd (x := x) (c6.out x.W))
      have q7 := Lib.hid (fun (x : Wd w4) => Calls.wd (x := x) (c7.out x.W))
      have hex := wd_ex w4
      clear x0 x1 x2 x3 x4 x5
      go_wp2_with fail
      refine wp_region_wd (by kernel_rfl) (by kernel_rfl) ?_
      repeat (go_big_quiet_step (first | (go_at_call 18; with_reducible exact q3.out _) | (go_at_call 18; with_reducible exact q4.out _) | (go_at_call 18; with_reducible exact q5.out _) | (go_at_call 21; with_reducible exact q6.out _) | (go_at_call 21; with_reducible exact q7.out _)))
      refine wpQuiet_nil ?_
      rintro _ ⟨u, rfl⟩
      have hf := Lib.hid (hfin.out u.W (hO3'.out.trans' (h4'.out.trans' u.ok)))
      go_wp2
      exact hf.out
    | false =>
      clear f1 f2 f3
      go_enter Try.func6, Try.ntmps6
      go_wp2_with fail
      rw [← hq'.out]
      rw [← hW3'.out]
      go_wp2_with (go_at_call 10; with_reducible refine (qf.out _).mono ?_; rintro e w3 ⟨rfl, h3⟩; obtain ⟨x0, x1, x2, x3, x4, x5⟩ := hr.out _ h3; have h3' := Lib.hid h3; clear h3)
      have p0 := wd_cell x0
      have p1 := wd_cell x1
      have p2 := wd_cell x2
      have p3 := wd_cell x3
      have q1 := Lib.hid (fun (x : Wd w3) => Calls.wd (x := x) (c1.out x.W))
      have q2 := Lib.hid (fun (x : Wd w3) => Calls.wd (x := x) (c2.out x.W))
      have hex := wd_ex w3
      refine wp_region_wd (by kernel_rfl) (by kernel_rfl) ?_
      repeat (go_big_quiet_step (first | (go_at_call 18; with_reducible exact q1.out _) | (go_at_call 18; with_reducible exact q2.out _)))
      refine wpQuiet_nil ?_
      rintro _ ⟨v, rfl⟩
      obtain ⟨w4, h4⟩ : ∃ w4, w4 = v.W := ⟨_, rfl⟩
      have h4' := Lib.hid (show Only (fun _ => False) W3 w4 from h4 ▸ h3'.out.trans' v.ok)
      rw [← h4]
      clear q1 q2 hex p0 p1 p2 p3 x0 x1 x2 x3 x4 x5 h4
      obtain ⟨x0, x1, x2, x3, x4, x5⟩ := hr.out _ h4'.out
      have p0 := wd_cell x0
      have p1 := wd_cell x1
      have p2 := wd_cell x2
      have p3 := wd_cell x3
      have p4 := wd_cell x4
      have p5 := wd_cell x5
      have q3 := Lib.hid (fun (x : Wd w4) => Calls.wd (x := x) (c3.out x.W))
      have q4 := Lib.hid (fun (x : Wd w4) => Calls.wd (x := x) (c4.out x.W))
      have q5 := Lib.hid (fun (x : Wd w4) => Calls.wd (x := x) (c5.out x.W))
      have q6 := Lib.hid (fun (x : Wd w4) => Calls.wd (x := x) (c6.out x.W))
      have q7 := Lib.hid (fun (x : Wd w4) => Calls.wd (x := x) (c7.out x.W))
      have hex := wd_ex w4
      clear x0 x1 x2 x3 x4 x5
      go_wp2_with fail
      refine wp_region_wd (by kernel_rfl) (by kernel_rfl) ?_
      repeat (go_big_quiet_step (first | (go_at_call 18; with_reducible exact q3.out _) | (go_at_call 18; with_reducible exact q4.out _) | (go_at_call 18; with_reducible exact q5.out _) | (go_at_call 21; with_reducible exact q6.out _) | (go_at_call 21; with_reducible exact q7.out _)))
      refine wpQuiet_nil ?_
      rintro _ ⟨u, rfl⟩
      have hf := Lib.hid (hfin.out u.W (hO3'.out.trans' (h4'.out.trans' u.ok)))
      go_wp2
      exact hf.out
  | false =>
    cases B2 with
    | true =>
      clear f1 f2 f3
      go_enter Try.func6, Try.ntmps6
      go_wp2_with fail
      rw [← hq'.out]
      rw [← hW3'.out]
      go_wp2_with (go_at_call 10; with_reducible refine (qf.out _).mono ?_; rintro e w3 ⟨rfl, h3⟩; obtain ⟨x0, x1, x2, x3, x4, x5⟩ := hr.out _ h3; have h3' := Lib.hid h3; clear h3)
      have p0 := wd_cell x0
      have p1 := wd_cell x1
      have p2 := wd_cell x2
      have p3 := wd_cell x3
      have q1 := Lib.hid (fun (x : Wd w3) => Calls.wd (x := x) (c1.out x.W))
      have q2 := Lib.hid (fun (x : Wd w3) => Calls.wd (x := x) (c2.out x.W))
      have hex := wd_ex w3
      refine wp_region_wd (by kernel_rfl) (by kernel_rfl) ?_
      repeat (go_big_quiet_step (first | (go_at_call 18; with_reducible exact q1.out _) | (go_at_call 18; with_reducible exact q2.out _)))
      refine wpQuiet_nil ?_
      rintro _ ⟨v, rfl⟩
      obtain ⟨w4, h4⟩ : ∃ w4, w4 = v.W := ⟨_, rfl⟩
      have h4' := Lib.hid (show Only (fun _ => False) W3 w4 from h4 ▸ h3'.out.trans' v.ok)
      rw [← h4]
      clear q1 q2 hex p0 p1 p2 p3 x0 x1 x2 x3 x4 x5 h4
      obtain ⟨x0, x1, x2, x3, x4, x5⟩ := hr.out _ h4'.out
      have p0 := wd_cell x0
      have p1 := wd_cell x1
      have p2 := wd_cell x2
      have p3 := wd_cell x3
      have p4 := wd_cell x4
      have p5 := wd_cell x5
      have q3 := Lib.hid (fun (x : Wd w4) => Calls.wd (x := x) (c3.out x.W))
      have q4 := Lib.hid (fun (x : Wd w4) => Calls.wd (x := x) (c4.out x.W))
      have q5 := Lib.hid (fun (x : Wd w4) => Calls.wd (x := x) (c5.out x.W))
      have q6 := Lib.hid (fun (x : Wd w4) => Calls.wd (x := x) (c6.out x.W))
      have q7 := Lib.hid (fun (x : Wd w4) => Calls.wd (x := x) (c7.out x.W))
      have hex := wd_ex w4
      clear x0 x1 x2 x3 x4 x5
      go_wp2_with fail
      refine wp_region_wd (by kernel_rfl) (by kernel_rfl) ?_
      repeat (go_big_quiet_step (first | (go_at_call 18; with_reducible exact q3.out _) | (go_at_call 18; with_reducible exact q4.out _) | (go_at_call 18; with_reducible exact q5.out _) | (go_at_call 21; with_reducible exact q6.out _) | (go_at_call 21; with_reducible exact q7.out _)))
      refine wpQuiet_nil ?_
      rintro _ ⟨u, rfl⟩
      have hf := Lib.hid (hfin.out u.W (hO3'.out.trans' (h4'.out.trans' u.ok)))
      go_wp2
      exact hf.out
    | false =>
      obtain ⟨e1, e2⟩ := f3 rfl rfl
      subst e1 e2
      clear f1 f2 f3
      go_enter Try.func6, Try.ntmps6
      go_wp2_with fail
      rw [← hq'.out]
      rw [← hW3'.out]
      go_wp2_with (go_at_call 10; with_reducible refine (qf.out _).mono ?_; rintro e w3 ⟨rfl, h3⟩; obtain ⟨x0, x1, x2, x3, x4, x5⟩ := hr.out _ h3; have h3' := Lib.hid h3; clear h3)
      have p0 := wd_cell x0
      have p1 := wd_cell x1
      have p2 := wd_cell x2
      have p3 := wd_cell x3
      have q1 := Lib.hid (fun (x : Wd w3) => Calls.wd (x := x) (c1.out x.W))
      have q2 := Lib.hid (fun (x : Wd w3) => Calls.wd (x := x) (c2.out x.W))
      have hex := wd_ex w3
      refine wp_region_wd (by kernel_rfl) (by kernel_rfl) ?_
      repeat (go_big_quiet_step (first | (go_at_call 18; with_reducible exact q1.out _) | (go_at_call 18; with_reducible exact q2.out _)))
      refine wpQuiet_nil ?_
      rintro _ ⟨v, rfl⟩
      obtain ⟨w4, h4⟩ : ∃ w4, w4 = v.W := ⟨_, rfl⟩
      have h4' := Lib.hid (show Only (fun _ => False) W3 w4 from h4 ▸ h3'.out.trans' v.ok)
      rw [← h4]
      clear q1 q2 hex p0 p1 p2 p3 x0 x1 x2 x3 x4 x5 h4
      obtain ⟨x0, x1, x2, x3, x4, x5⟩ := hr.out _ h4'.out
      have p0 := wd_cell x0
      have p1 := wd_cell x1
      have p2 := wd_cell x2
      have p3 := wd_cell x3
      have p4 := wd_cell x4
      have p5 := wd_cell x5
      have q3 := Lib.hid (fun (x : Wd w4) => Calls.wd (x := x) (c3.out x.W))
      have q4 := Lib.hid (fun (x : Wd w4) => Calls.wd (x := x) (c4.out x.W))
      have q5 := Lib.hid (fun (x : Wd w4) => Calls.wd (x := x) (c5.out x.W))
      have q6 := Lib.hid (fun (x : Wd w4) => Calls.wd (x := x) (c6.out x.W))
      have q7 := Lib.hid (fun (x : Wd w4) => Calls.wd (x := x) (c7.out x.W))
      have hex := wd_ex w4
      clear x0 x1 x2 x3 x4 x5
      go_wp2_with fail
      refine wp_region_wd (by kernel_rfl) (by kernel_rfl) ?_
      repeat (go_big_quiet_step (first | (go_at_call 18; with_reducible exact q3.out _) | (go_at_call 18; with_reducible exact q4.out _) | (go_at_call 18; with_reducible exact q5.out _) | (go_at_call 21; with_reducible exact q6.out _) | (go_at_call 21; with_reducible exact q7.out _)))
      refine wpQuiet_nil ?_
      rintro _ ⟨u, rfl⟩
      have hf := Lib.hid (hfin.out u.W (hO3'.out.trans' (h4'.out.trans' u.ok)))
      go_wp2
      exact hf.out
end Hyp
end Go.Proofs.Ytkolbaadakhciaa
