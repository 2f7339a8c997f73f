/- The document's sum of shares; the fixed calls of layer 32's statements. -/
import Derived.Test.YtkolbaadakhciaaHy3
namespace Go.Proofs.Ytkolbaadakhciaa
namespace Hyp
open Go Go.RowKit
open Bch (U sA sM sA_le sM_le ret_u mul_any add_any mul64_any)

set_option maxRecDepth 100000 in
set_option maxHeartbeats 4000000 in
theorem radd_any (a b c d : Nat) (w : World) (ha : a ≤ 18446744073709551615) (hb : b ≤ 18446744073709551615) (hc : c ≤ 18446744073709551615) (hd : d ≤ 18446744073709551615) :
    Calls Try.prog 16 #[U a, U b, U c, U d] w (GrowV (.tuple #[U (adA a b c d), U (adB a b c d)]) w) := by
  obtain ⟨Z, hZ⟩ : ∃ Z, Z = GrowV (.tuple #[U (adA a b c d), U (adB a b c d)]) w := ⟨_, rfl⟩
  rw [← hZ]
  have hZ' := Lib.hid hZ
  have c1 : Hid (∀ W, Calls Try.prog 17 #[U a, U b] W fun e w' => e = .returned (.tuple #[U (smA a b), U (smB a b)]) ∧ Only (fun _ => False) W w') := fun W => rsimple_any a b W ha hb
  have c2 : Hid (∀ W, Calls Try.prog 17 #[U c, U d] W fun e w' => e = .returned (.tuple #[U (smA c d), U (smB c d)]) ∧ Only (fun _ => False) W w') := fun W => rsimple_any c d W hc hd
  have kb := smB_le (a := a) hb
  obtain ⟨hbad, hgood⟩ := radd_pure a b c d kb
  have ka := smA_le (b := b) ha
  have kc := smA_le (b := d) hc
  have kd := smB_le (a := c) hd
  obtain ⟨A, hA⟩ : ∃ A, A = smA a b := ⟨_, rfl⟩
  obtain ⟨B, hB⟩ : ∃ B, B = smB a b := ⟨_, rfl⟩
  obtain ⟨C, hC⟩ : ∃ C, C = smA c d := ⟨_, rfl⟩
  obtain ⟨D, hD⟩ : ∃ D, D = smB c d := ⟨_, rfl⟩
  rw [← hA, ← hB] at c1
  rw [← hC, ← hD] at c2
  rw [← hA, ← hB, ← hC, ← hD] at hbad hgood
  rw [← hA] at ka
  rw [← hB] at kb
  rw [← hC] at kc
  rw [← hD] at kd
  have m1 := Lib.hid (fun W => times_any A D W ka kd)
  have m2 := Lib.hid (fun W => times_any C B W kc kb)
  have m3 := Lib.hid (fun W => times_any B D W kb kd)
  have ex : timesB A D = true → timesV A D = A * D ∧ A * D < 18446744073709551615 := fun h => by
    have := of_decide_eq_true h
    exact ⟨by unfold timesV; rw [if_neg (by omega)], this⟩
  have ey : timesB C B = true → timesV C B = C * B ∧ C * B < 18446744073709551615 := fun h => by
    have := of_decide_eq_true h
    exact ⟨by unfold timesV; rw [if_neg (by omega)], this⟩
  have ez : timesB B D = true → timesV B D = B * D ∧ B * D < 18446744073709551615 := fun h => by
    have := of_decide_eq_true h
    exact ⟨by unfold timesV; rw [if_neg (by omega)], this⟩
  obtain ⟨x, hx⟩ : ∃ x, x = timesV A D := ⟨_, rfl⟩
  obtain ⟨y, hy⟩ : ∃ y, y = timesV C B := ⟨_, rfl⟩
  obtain ⟨z, hz⟩ : ∃ z, z = timesV B D := ⟨_, rfl⟩
  obtain ⟨p, hp⟩ : ∃ x, x = timesB A D := ⟨_, rfl⟩
  obtain ⟨q, hq⟩ : ∃ x, x = timesB C B := ⟨_, rfl⟩
  obtain ⟨r, hr⟩ : ∃ x, x = timesB B D := ⟨_, rfl⟩
  rw [← hx, ← hp] at m1 ex
  rw [← hy, ← hq] at m2 ey
  rw [← hz, ← hr] at m3 ez
  rw [← hp, ← hq, ← hr] at hbad hgood
  have hbad' : (B = 0 ∨ D = 0 ∨ p = false ∨ q = false ∨ r = false ∨ (p = true ∧ q = true ∧ 18446744073709551614 < x + y)) → ∀ W, Only (fun _ => False) w W → Z (.returned (.tuple #[.int .u64 18446744073709551615, .int .u64 0])) W := fun h W ho => by
    have h' := hbad (by
      rcases h with h | h | h | h | h | ⟨h1, h2, h3⟩
      · exact .inl h
      · exact .inr (.inl h)
      · exact .inr (.inr (.inl h))
      · exact .inr (.inr (.inr (.inl h)))
      · exact .inr (.inr (.inr (.inr (.inl h))))
      · rw [(ex h1).1, (ey h2).1] at h3
        exact .inr (.inr (.inr (.inr (.inr h3)))))
    rw [hZ]
    exact ⟨by rw [h'.1, h'.2]; rfl, ho⟩
  have hgood' : B ≠ 0 → D ≠ 0 → p = true → q = true → r = true → x + y ≤ 18446744073709551614 → ∀ W, Only (fun _ => False) w W → Z (.returned (.tuple #[U (smA (x + y) z), U (smB (x + y) z)])) W := fun h1 h2 h3 h4 h5 h6 W ho => by
    rw [(ex h3).1, (ey h4).1] at h6
    have h' := hgood (by rw [h3, h4, h5]; simp; omega)
    rw [hZ]
    exact ⟨by rw [h'.1, h'.2, (ex h3).1, (ey h4).1, (ez h5).1], ho⟩
  have hxx : p = true → x < 18446744073709551615 := fun h => by have := ex h; omega
  have hyy : q = true → y < 18446744073709551615 := fun h => by have := ey h; omega
  have hzz : r = true → z < 18446744073709551615 := fun h => by have := ez h; omega
  have hb9 := Lib.hid hbad'
  have hg9 := Lib.hid hgood'
  clear hbad' hgood' hbad hgood hZ hZ' ex ey ez hA hB hC hD hx hy hz hp hq hr
  by_cases k1 : B = 0
  · have hfin := Lib.hid (hb9.out (.inl k1))
    have k1' : ((B : Int) == 0) = true := by simpa using k1
    clear k1
    clear hb9 hg9 hxx hyy hzz
    go_enter Try.func16, Try.ntmps16
    go_wp2_with (first | (go_at_call 17; with_reducible refine (c1.out _).mono ?_; rintro e w1 ⟨rfl, h1⟩; have h1' := Lib.hid h1; clear h1) | (go_at_call 17; with_reducible refine (c2.out _).mono ?_; rintro e w2 ⟨rfl, h2⟩; have h2' := Lib.hid h2; clear h2) | (go_at_call 29; with_reducible refine (m1.out _).mono ?_; rintro e w' ⟨rfl, hw⟩; subst hw) | (go_at_call 29; with_reducible refine (m2.out _).mono ?_; rintro e w' ⟨rfl, hw⟩; subst hw) | (go_at_call 29; with_reducible refine (m3.out _).mono ?_; rintro e w' ⟨rfl, hw⟩; subst hw))
    exact hfin.out _ (h1'.out.trans' h2'.out)
  have k1' : ((B : Int) == 0) = false := by simpa using k1
  by_cases k2 : D = 0
  · have hfin := Lib.hid (hb9.out (.inr (.inl k2)))
    have k2' : ((D : Int) == 0) = true := by simpa using k2
    clear k2 k1
    clear hb9 hg9 hxx hyy hzz
    go_enter Try.func16, Try.ntmps16
    go_wp2_with (first | (go_at_call 17; with_reducible refine (c1.out _).mono ?_; rintro e w1 ⟨rfl, h1⟩; have h1' := Lib.hid h1; clear h1) | (go_at_call 17; with_reducible refine (c2.out _).mono ?_; rintro e w2 ⟨rfl, h2⟩; have h2' := Lib.hid h2; clear h2) | (go_at_call 29; with_reducible refine (m1.out _).mono ?_; rintro e w' ⟨rfl, hw⟩; subst hw) | (go_at_call 29; with_reducible refine (m2.out _).mono ?_; rintro e w' ⟨rfl, hw⟩; subst hw) | (go_at_call 29; with_reducible refine (m3.out _).mono ?_; rintro e w' ⟨rfl, hw⟩; subst hw))
    exact hfin.out _ (h1'.out.trans' h2'.out)
  have k2' : ((D : Int) == 0) = false := by simpa using k2
  by_cases k3 : p = false
  · have hfin := Lib.hid (hb9.out (.inr (.inr (.inl k3))))
    subst k3
    clear k2 k1
    clear hb9 hg9 hxx hyy hzz
    go_enter Try.func16, Try.ntmps16
    go_wp2_with (first | (go_at_call 17; with_reducible refine (c1.out _).mono ?_; rintro e w1 ⟨rfl, h1⟩; have h1' := Lib.hid h1; clear h1) | (go_at_call 17; with_reducible refine (c2.out _).mono ?_; rintro e w2 ⟨rfl, h2⟩; have h2' := Lib.hid h2; clear h2) | (go_at_call 29; with_reducible refine (m1.out _).mono ?_; rintro e w' ⟨rfl, hw⟩; subst hw) | (go_at_call 29; with_reducible refine (m2.out _).mono ?_; rintro e w' ⟨rfl, hw⟩; subst hw) | (go_at_call 29; with_reducible refine (m3.out _).mono ?_; rintro e w' ⟨rfl, hw⟩; subst hw))
    exact hfin.out _ (h1'.out.trans' h2'.out)
  obtain rfl : p = true := by simpa using k3
  by_cases k4 : q = false
  · have hfin := Lib.hid (hb9.out (.inr (.inr (.inr (.inl k4)))))
    subst k4
    clear k2 k1 k3
    clear hb9 hg9 hxx hyy hzz
    go_enter Try.func16, Try.ntmps16
    go_wp2_with (first | (go_at_call 17; with_reducible refine (c1.out _).mono ?_; rintro e w1 ⟨rfl, h1⟩; have h1' := Lib.hid h1; clear h1) | (go_at_call 17; with_reducible refine (c2.out _).mono ?_; rintro e w2 ⟨rfl, h2⟩; have h2' := Lib.hid h2; clear h2) | (go_at_call 29; with_reducible refine (m1.out _).mono ?_; rintro e w' ⟨rfl, hw⟩; subst hw) | (go_at_call 29; with_reducible refine (m2.out _).mono ?_; rintro e w' ⟨rfl, hw⟩; subst hw) | (go_at_call 29; with_reducible refine (m3.out _).mono ?_; rintro e w' ⟨rfl, hw⟩; subst hw))
    exact hfin.out _ (h1'.out.trans' h2'.out)
  obtain rfl : q = true := by simpa using k4
  by_cases k5 : r = false
  · have hfin := Lib.hid (hb9.out (.inr (.inr (.inr (.inr (.inl k5))))))
    subst k5
    clear k2 k1 k3 k4
    clear hb9 hg9 hxx hyy hzz
    go_enter Try.func16, Try.ntmps16
    go_wp2_with (first | (go_at_call 17; with_reducible refine (c1.out _).mono ?_; rintro e w1 ⟨rfl, h1⟩; have h1' := Lib.hid h1; clear h1) | (go_at_call 17; with_reducible refine (c2.out _).mono ?_; rintro e w2 ⟨rfl, h2⟩; have h2' := Lib.hid h2; clear h2) | (go_at_call 29; with_reducible refine (m1.out _).mono ?_; rintro e w' ⟨rfl, hw⟩; subst hw) | (go_at_call 29; with_reducible refine (m2.out _).mono ?_; rintro e w' ⟨rfl, hw⟩; subst hw) | (go_at_call 29; with_reducible refine (m3.out _).mono ?_; rintro e w' ⟨rfl, hw⟩; subst hw))
    exact hfin.out _ (h1'.out.trans' h2'.out)
  obtain rfl : r = true := by simpa using k5
  have x9 := hxx rfl
  have y9 := hyy rfl
  have z9 := hzz rfl
  by_cases k6 : 18446744073709551614 < x + y
  · have hfin := Lib.hid (hb9.out (.inr (.inr (.inr (.inr (.inr ⟨rfl, rfl, k6⟩))))))
    have k6' : (18446744073709551614 : Int) - y < x := by omega
    clear k2 k1 k3 k4 k5 k6
    clear hb9 hg9 hxx hyy hzz
    go_enter Try.func16, Try.ntmps16
    go_wp2_with (first | (go_at_call 17; with_reducible refine (c1.out _).mono ?_; rintro e w1 ⟨rfl, h1⟩; have h1' := Lib.hid h1; clear h1) | (go_at_call 17; with_reducible refine (c2.out _).mono ?_; rintro e w2 ⟨rfl, h2⟩; have h2' := Lib.hid h2; clear h2) | (go_at_call 29; with_reducible refine (m1.out _).mono ?_; rintro e w' ⟨rfl, hw⟩; subst hw) | (go_at_call 29; with_reducible refine (m2.out _).mono ?_; rintro e w' ⟨rfl, hw⟩; subst hw) | (go_at_call 29; with_reducible refine (m3.out _).mono ?_; rintro e w' ⟨rfl, hw⟩; subst hw))
    exact hfin.out _ (h1'.out.trans' h2'.out)
  have k6' : ¬ (18446744073709551614 : Int) - y < x := by omega
  have hfin := Lib.hid (hg9.out k1 k2 rfl rfl rfl (by omega))
  have m6 : Hid (∀ W, Calls Try.prog 17 #[U (x + y), U z] W fun e w' => e = .returned (.tuple #[U (smA (x + y) z), U (smB (x + y) z)]) ∧ Only (fun _ => False) W w') := fun W => rsimple_any (x + y) z W (by omega) (by omega)
  obtain ⟨s, hs⟩ : ∃ s, s = x + y := ⟨_, rfl⟩
  have hadd : (x : Int) + y = (s : Int) := by omega
  have s9 : s ≤ 18446744073709551614 := by omega
  rw [← hs] at hfin m6
  clear hb9 hg9 hxx hyy hzz k1 k2 k3 k4 k5 k6 hs
  go_enter Try.func16, Try.ntmps16
  go_wp2_with (first | (go_at_call 17; with_reducible refine (c1.out _).mono ?_; rintro e w1 ⟨rfl, h1⟩; have h1' := Lib.hid h1; clear h1) | (go_at_call 17; with_reducible refine (c2.out _).mono ?_; rintro e w2 ⟨rfl, h2⟩; have h2' := Lib.hid h2; clear h2) | (go_at_call 29; with_reducible refine (m1.out _).mono ?_; rintro e w' ⟨rfl, hw⟩; subst hw) | (go_at_call 29; with_reducible refine (m2.out _).mono ?_; rintro e w' ⟨rfl, hw⟩; subst hw) | (go_at_call 29; with_reducible refine (m3.out _).mono ?_; rintro e w' ⟨rfl, hw⟩; subst hw) | (go_at_call 17; with_reducible refine (m6.out _).mono ?_; rintro e w3 ⟨rfl, h3⟩; have h3' := Lib.hid h3; clear h3))
  exact hfin.out _ ((h1'.out.trans' h2'.out).trans' h3'.out)
end Hyp
end Go.Proofs.Ytkolbaadakhciaa
