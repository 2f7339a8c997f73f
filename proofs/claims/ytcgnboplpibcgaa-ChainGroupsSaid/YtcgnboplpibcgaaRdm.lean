/- The document's demand and window. -/
import Derived.Test.YtcgnboplpibcgaaSpl
namespace Go.Proofs.Ytcgnboplpibcgaa
open Go Go.RowKit
/-- r is the least x from 1 on whose D isn't above it, up to most; 0: there is none. -/
def IsWin (D : Nat → Nat) (most r : Nat) : Prop := (r = 0 ∧ ∀ x, 1 ≤ x → x ≤ most → x < D x) ∨ (1 ≤ r ∧ r ≤ most ∧ D r ≤ r ∧ ∀ x, 1 ≤ x → x < r → x < D x)
theorem IsWin.uniq {D : Nat → Nat} {most r s : Nat} (h : IsWin D most r) (k : IsWin D most s) : r = s := by
  rcases h with ⟨rfl, h⟩ | ⟨h1, h2, h3, h4⟩ <;> rcases k with ⟨rfl, k⟩ | ⟨k1, k2, k3, k4⟩
  · rfl
  · have := h s k1 k2; omega
  · have := k r h1 h2; omega
  · rcases Nat.lt_trichotomy r s with hh | hh | hh
    · have := k4 r h1 hh; omega
    · exact hh
    · have := h4 s k1 hh; omega
def winF (D : Nat → Nat) : Nat → Nat → Nat
  | 0, _ => 0
  | f + 1, x => if D x ≤ x then x else winF D f (x + 1)
theorem winF_is (D : Nat → Nat) : ∀ f x, 1 ≤ x → (∀ y, 1 ≤ y → y < x → y < D y) → IsWin D (x + f - 1) (winF D f x)
  | 0, x, hx, h => .inl ⟨rfl, fun y h1 h2 => h y h1 (by omega)⟩
  | f + 1, x, hx, h => by
    unfold winF
    split
    · next hd => exact .inr ⟨hx, by omega, hd, h⟩
    · next hd =>
      have := winF_is D f (x + 1) (by omega) (fun y h1 h2 => by
        rcases Nat.lt_or_ge y x with h3 | h3
        · exact h y h1 h3
        · obtain rfl : y = x := by omega
          omega)
      rwa [show x + 1 + f - 1 = x + (f + 1) - 1 by omega] at this
def win (D : Nat → Nat) (most : Nat) : Nat := winF D most 1
theorem win_is (D : Nat → Nat) (most : Nat) : IsWin D most (win D most) := by
  have := winF_is D most 1 (Nat.le_refl _) (fun y h1 h2 => by omega)
  rwa [show 1 + most - 1 = most by omega] at this

theorem uU_at {l : List Nat} {k c : Nat} (h : l[k]? = some c) : (l.map uU)[k]? = some (uU c) := by rw [List.getElem?_map, h]; rfl
set_option maxHeartbeats 1000000 in
theorem rdemand_any {va vb : Value} {ha hb : Option Nat} {n d x : Nat} {l : List Ld} {w : World} (hA : Win w 22 1 va ha n ((l.map (·.1)).map uU)) (hB : Win w 22 1 vb hb n ((l.map (·.2)).map uU)) (hn : l.length = n) (hnn : n ≤ 1000) (hlb : LB l) (hd : d ≤ 18446744073709551615) (hx : x ≤ 18446744073709551615) :
    Calls Try.prog 13 #[U d, va, vb, U x] w (GrowU (dem d l x) w) := by
  have hn' := Lib.hid hn
  have hb' := Lib.hid hlb
  have hd' := Lib.hid hd
  have hx' := Lib.hid hx
  obtain ⟨D, hD⟩ : ∃ D : Nat → Nat, D = fun k => dem d (l.take k) x := ⟨_, rfl⟩
  have hD' := Lib.hid hD
  have hD0' := Lib.hid (show d = D 0 by rw [hD]; rfl)
  have hDn : dem d l x = D n := by rw [hD, ← hn]; simp
  rw [hDn]
  obtain ⟨Z, hZ⟩ : ∃ Z, Z = GrowU (D n) w := ⟨_, rfl⟩
  rw [← hZ]
  have hZ' := Lib.hid hZ
  have hA' := Lib.hid hA
  have hB' := Lib.hid hB
  obtain ⟨pa, ca, rfl, -, -⟩ := hA.form
  obtain ⟨pb, cb, rfl, -, -⟩ := hB.form
  clear hn hlb hd hD hDn hZ hA hB
  go_enter Try.func13, Try.ntmps13
  go_wp2
  go_loopw [9, 10, 14] (fun u9 _ u14 wr => ∃ k : Nat, u9 = U (D k) ∧ u14 = .int .i64 k ∧ k ≤ n ∧ Hid (Only (fun _ => False) w wr)) (fun _ _ i _ => (n - intOf i).toNat)
  case atStart => exact ⟨0, by rw [hD0'.out], rfl, Nat.zero_le _, Only.refl _ _⟩
  case round =>
    obtain ⟨k, rfl, rfl, hk, hO⟩ := hrel
    by_cases hkn : k < n
    · have hkn' : (k : Int) < n := by omega
      obtain ⟨⟨c, p⟩, hcp⟩ : ∃ y, l[k]? = some y := ⟨_, List.getElem?_eq_getElem (by have := hn'.out; omega)⟩
      obtain ⟨g1, o1, c1, _, hv1, _, _, hl1, hc1, _⟩ := (hA'.out.kept hO.out (fun _ _ h => h)).at_ (by omega)
      simp only [Value.slice.injEq, true_and] at hv1
      obtain ⟨rfl, rfl⟩ := hv1
      obtain ⟨g2, o2, c2, _, hv2, _, _, hl2, hc2, _⟩ := (hB'.out.kept hO.out (fun _ _ h => h)).at_ (by omega)
      simp only [Value.slice.injEq, true_and] at hv2
      obtain ⟨rfl, rfl⟩ := hv2
      have e1 : wr.cell? ⟨g1, o1 + k, none⟩ = some (U c) := hc1 k _ (uU_at (by rw [List.getElem?_map, hcp]; rfl))
      have e2 : wr.cell? ⟨g2, o2 + k, none⟩ = some (U p) := hc2 k _ (uU_at (by rw [List.getElem?_map, hcp]; rfl))
      have hcb := hb'.out k c p hcp
      have hstep : D (k + 1) = sA (D k) (sM c (sC x p)) := by rw [hD'.out]; exact dem_take hcp
      have hDk : D k ≤ 18446744073709551615 := by rw [hD'.out]; exact dem_le hd'.out _ _
      have hs := Lib.hid hstep
      have q1 := Lib.hid (fun W => rceil_any x p W hx'.out hcb.2)
      have q2 := Lib.hid (fun W => rmul_any c hcb.1 (sC x p) (sC x p) W (Nat.le_refl _) (sC_le hx'.out))
      have q3 := Lib.hid (fun W => radd_any (D k) (sM c (sC x p)) W hDk (sM_le _ _))
      obtain ⟨s1, hs1⟩ : ∃ s1, s1 = sC x p := ⟨_, rfl⟩
      rw [← hs1] at q1 q2 q3 hs
      obtain ⟨s2, hs2⟩ : ∃ s2, s2 = sM c s1 := ⟨_, rfl⟩
      rw [← hs2] at q2 q3 hs
      rw [← hs.out] at q3
      clear hs1 hs2 hstep hDk hcb hc1 hc2
      go_wp2_with fail
      go_quiet (first | (go_at_call 31; exact Calls.quiet_of_same (q1.out _)) | (go_at_call 30; exact Calls.quiet_of_same (q2.out _)) | (go_at_call 29; exact Calls.quiet_of_same (q3.out _)))
      go_wp2_with fail
      go_roundw
      case rel => exact ⟨k + 1, rfl, by go_num, by omega, Lib.hid (hO.out.trans' ((Only.refl _ _).drewN _))⟩
      case measure => simp [intOf]; omega
    · obtain rfl : k = n := by omega
      go_wp2
      rw [hZ'.out]
      exact ⟨rfl, hO.out⟩

set_option maxHeartbeats 1000000 in
theorem rwindow_any {va vb : Value} {ha hb : Option Nat} {n d most : Nat} {l : List Ld} {w : World} (hA : Win w 22 1 va ha n ((l.map (·.1)).map uU)) (hB : Win w 22 1 vb hb n ((l.map (·.2)).map uU)) (hn : l.length = n) (hnn : n ≤ 1000) (hlb : LB l) (hd : d ≤ 18446744073709551615) (hm : most ≤ 100000) :
    Calls Try.prog 15 #[U d, va, vb, U most] w (GrowU (win (dem d l) most) w) := by
  have hc := Lib.hid (fun W (ho : Only (fun _ => False) w W) (x : Nat) (hx : x ≤ 18446744073709551615) => rdemand_any (x := x) (hA.kept ho (fun _ _ h => h)) (hB.kept ho (fun _ _ h => h)) hn hnn hlb hd hx)
  have hlast := Lib.hid (fun r (h : IsWin (dem d l) most r) => (h.uniq (win_is _ _)))
  obtain ⟨r, hr⟩ : ∃ r, r = win (dem d l) most := ⟨_, rfl⟩
  obtain ⟨Z, hZ⟩ : ∃ Z, Z = GrowU r w := ⟨_, rfl⟩
  rw [← hr] at hlast ⊢
  rw [← hZ]
  have hZ' := Lib.hid hZ
  obtain ⟨D, hD⟩ : ∃ D : Nat → Nat, D = dem d l := ⟨_, rfl⟩
  rw [← hD] at hc hlast
  obtain ⟨pa, ca, rfl, -, -⟩ := hA.form
  obtain ⟨pb, cb, rfl, -, -⟩ := hB.form
  clear hn hlb hd hD hr hZ hA hB
  go_enter Try.func15, Try.ntmps15
  go_wp2
  go_loopw [9] (fun u9 wr => ∃ x : Nat, u9 = U x ∧ 1 ≤ x ∧ x ≤ most + 1 ∧ Hid (∀ y, 1 ≤ y → y < x → y < D y) ∧ Hid (Only (fun _ => False) w wr)) (fun i _ => (most + 1 - intOf i).toNat)
  case atStart => exact ⟨1, rfl, Nat.le_refl _, by omega, Lib.hid (fun y h1 h2 => by omega), Only.refl _ _⟩
  case round =>
    obtain ⟨x, rfl, hx1, hxm, hI, hO⟩ := hrel
    by_cases hxn : x ≤ most
    · have hxn' : (x : Int) ≤ most := by omega
      have q := Lib.hid (hc.out wr hO.out x (by omega))
      by_cases hdx : D x ≤ x
      · have hfin := Lib.hid (hlast.out x (.inr ⟨hx1, hxn, hdx, hI.out⟩))
        have hdx' : (D x : Int) ≤ x := by omega
        obtain ⟨dx, hdd⟩ : ∃ dx, dx = D x := ⟨_, rfl⟩
        rw [← hdd] at q hdx'
        clear hdx hdd
        go_wp2_with (go_at_call 13; refine q.out.mono ?_; rintro e w2 ⟨rfl, ho⟩; have hO2 := Lib.hid (hO.out.trans' ho); clear ho)
        rw [hZ'.out]
        exact ⟨by rw [← hfin.out]; rfl, hO2.out⟩
      · have hdx' : ¬ (D x : Int) ≤ x := by omega
        have hI2 := Lib.hid (show ∀ y, 1 ≤ y → y < x + 1 → y < D y from fun y h1 h2 => by
          rcases Nat.lt_or_ge y x with h3 | h3
          · exact hI.out y h1 h3
          · obtain rfl : y = x := by omega
            omega)
        obtain ⟨dx, hdd⟩ : ∃ dx, dx = D x := ⟨_, rfl⟩
        rw [← hdd] at q hdx'
        clear hdx hdd
        go_wp2_with (go_at_call 13; refine q.out.mono ?_; rintro e w2 ⟨rfl, ho⟩; have hO2 := Lib.hid (hO.out.trans' ho); clear ho)
        go_roundw
        case rel => exact ⟨x + 1, by go_num, by omega, by omega, hI2, hO2⟩
        case measure => simp [intOf]; omega
    · obtain rfl : x = most + 1 := by omega
      have hfin := Lib.hid (hlast.out 0 (.inl ⟨rfl, fun y h1 h2 => hI.out y h1 (by omega)⟩))
      have hno : ¬ ((most + 1 : Nat) : Int) ≤ most := by omega
      go_wp2
      rw [hZ'.out]
      exact ⟨by rw [← hfin.out]; rfl, hO.out⟩
end Go.Proofs.Ytcgnboplpibcgaa
