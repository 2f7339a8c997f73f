/- BusySlacks: the walk; the laws of layer 25 over what came in. -/
import Derived.Test.YtcgnboplpibcgaaWindows
import Derived.BigRegion
namespace Go.Proofs.Ytcgnboplpibcgaa
open Go Go.RowKit
theorem windows_law (a0 : Int) (A : Option Addr) (n cap : Nat) (l : List Ld) (a2 a3 : Int) (W : World) (w0 : (Lit.int .u64 a0).wf = true) (h : LoadsIn W A n l) (w2 : (Lit.int .u64 a2).wf = true) (w3 : (Lit.int .u64 a3).wf = true) :
    Calls Try.prog 3 #[.int .u64 a0, .slice A n cap, .int .u64 a2, .int .u64 a3] W fun e w' => e = .returned (.bool true) ∧ Below W.heap.size W w' := by
  obtain ⟨d, rfl, hd⟩ := u64_of w0
  obtain ⟨x, rfl, hx⟩ := u64_of w2
  obtain ⟨m, rfl, hm⟩ := u64_of w3
  exact (windows_any h hd hx hm).mono fun e w' ⟨he, hO⟩ => ⟨he, hO.below (Nat.le_refl _) (fun _ h => h.elim)⟩
theorem wfix (l : List Ld) (m d : Nat) : fitB l m d = true ↔ win (dem d l) m ≠ 0 := by
  unfold fitB
  rw [decide_eq_true_iff]
  omega
set_option maxRecDepth 100000 in
set_option maxHeartbeats 4000000 in
theorem slacks_any {w : World} {A : Option Addr} {n cap most : Nat} {l : List Ld} (h : LoadsIn w A n l) (hm : most ≤ 18446744073709551615) :
    Calls Try.prog 4 #[.slice A n cap, U most] w (AnsB true w) := by
  have hI := Lib.hid h
  have hm' := Lib.hid hm
  obtain ⟨Z, hZ⟩ : ∃ Z, Z = AnsB true w := ⟨_, rfl⟩
  rw [← hZ]
  have hZ' := Lib.hid hZ
  clear h hm hZ
  by_cases h1 : 12 < n
  · have h1' : (12 : Int) < n := by omega
    go_enter Try.func4, Try.ntmps4
    go_wp2_with fail
    refine (fixed25_any _).mono ?_
    rintro e w2 ⟨rfl, ho⟩
    have hO2 := Lib.hid ho
    clear ho
    go_wp2
    rw [hZ'.out]
    exact ⟨rfl, hO2.out⟩
  by_cases h2 : 1000 < most
  · have h1' : ¬ (12 : Int) < n := by omega
    have h2' : (1000 : Int) < most := by omega
    go_enter Try.func4, Try.ntmps4
    go_wp2_with fail
    refine (fixed25_any _).mono ?_
    rintro e w2 ⟨rfl, ho⟩
    have hO2 := Lib.hid ho
    clear ho
    go_wp2
    rw [hZ'.out]
    exact ⟨rfl, hO2.out⟩
  have h1' : ¬ (12 : Int) < n := by omega
  have h2' : ¬ (1000 : Int) < most := by omega
  have hnn := Lib.hid (show n ≤ 1000 by omega)
  have hmm := Lib.hid (show most ≤ 100000 ∧ min most 16777216 = most by omega)
  have hm1 : most ≤ 1000 := by omega
  clear h1 h2
  go_enter Try.func4, Try.ntmps4
  go_wp2_with fail
  refine (fixed25_any _).mono ?_
  rintro e w2 ⟨rfl, ho⟩
  have hO2 := Lib.hid ho
  clear ho
  go_wp2_with fail
  refine (split_any (hI.out.new hO2.out).row hI.out.len hnn.out).mono ?_
  rintro e w3 ⟨va, ha, vb, hb, rfl, hP⟩
  obtain ⟨pa, ca, rfl, -, -⟩ := hP.k.form
  obtain ⟨pb, cb, rfl, -, -⟩ := hP.g.form
  have hP' := Lib.hid hP
  have hO3 := Lib.hid (hO2.out.trans' hP.only)
  clear hP
  have hrw := Lib.hid (fun W (ho : Only (fun _ => False) w3 W) (d : Nat) (hd : d ≤ 18446744073709551615) => rwindow_any (hP'.out.k.kept ho (fun _ _ h => h)) (hP'.out.g.kept ho (fun _ _ h => h)) hI.out.len hnn.out hI.out.lb hd hmm.out.1)
  go_wp2_with fail
  refine (slack_any (hI.out.new hO3.out).row hI.out.len hnn.out hI.out.lb hm'.out).mono ?_
  rintro e w4 ⟨s, b, rfl, ho, hs⟩
  have hO4 := Lib.hid ho
  rw [hmm.out.2] at hs
  have hs' := Lib.hid hs
  clear ho hs
  obtain ⟨r0, hr0⟩ : ∃ r0, r0 = win (dem 0 l) most := ⟨_, rfl⟩
  have q0 := Lib.hid (hrw.out w4 hO4.out 0 (by omega))
  rw [← hr0] at q0
  go_wp2_with fail
  refine q0.out.mono ?_
  rintro e w5 ⟨rfl, ho⟩
  have hO5 := Lib.hid (hO4.out.trans' ho)
  clear ho
  by_cases h0 : r0 = 0
  · have e0 : b = false ∧ s = 0 := by
      rcases hs'.out with ⟨h3, h4, _⟩ | ⟨h3, h4, h5, h6⟩
      · exact ⟨h3, h4⟩
      · exfalso
        have h7 := (wfix l most s).1 h5
        rcases win_is (dem s l) most with ⟨h8, _⟩ | ⟨h8, h9, h10, _⟩
        · exact h7 h8
        · have h11 : dem 0 l (win (dem s l) most) ≤ win (dem s l) most := Nat.le_trans (dem_mono (Nat.zero_le s) l (Nat.le_refl _) (by omega)) h10
          rcases win_is (dem 0 l) most with ⟨_, h13⟩ | ⟨h13, _⟩
          · have := h13 _ h8 h9; omega
          · omega
    obtain ⟨rfl, rfl⟩ := e0
    subst h0
    clear hr0
    go_wp2
    rw [hZ'.out]
    exact ⟨rfl, hO3.out.trans' hO5.out⟩
  · have h0' : ((r0 : Int) == 0) = false := by simpa using h0
    obtain ⟨rfl, h4, h5, h6⟩ : b = true ∧ s ≤ most ∧ fitB l most s = true ∧ (s = most ∨ fitB l most (s + 1) = false) := by
      rcases hs'.out with ⟨h3, h4, h5⟩ | ⟨h3, h4, h5, h6⟩
      · exfalso
        have : fitB l most 0 = true := (wfix l most 0).2 (by rw [← hr0]; exact h0)
        rw [h5] at this
        cases this
      · exact ⟨h3, h4, h5, h6⟩
    have h4' : (s : Int) ≤ most := by omega
    have q1 := Lib.hid (hrw.out w5 hO5.out s (by omega))
    obtain ⟨r1, hr1⟩ : ∃ r1, r1 = win (dem s l) most := ⟨_, rfl⟩
    rw [← hr1] at q1
    have hr1' : (0 : Int) < r1 := by
      have := (wfix l most s).1 h5
      rw [← hr1] at this
      omega
    clear hr1 hr0 h0 hs'
    by_cases h7 : s = most
    · subst h7
      clear h6 h5
      go_wp2_with fail
      refine q1.out.mono ?_
      rintro e w6 ⟨rfl, ho⟩
      have hO6 := Lib.hid (hO5.out.trans' ho)
      clear ho
      go_wp2
      rw [hZ'.out]
      exact ⟨rfl, hO3.out.trans' hO6.out⟩
    · have h7' : ((s : Int) == most) = false := by simp; omega
      have h8 : fitB l most (s + 1) = false := h6.elim (fun h => absurd h h7) id
      have hr2 : win (dem (s + 1) l) most = 0 := by
        rcases Nat.eq_zero_or_pos (win (dem (s + 1) l) most) with h | h
        · exact h
        · have := (wfix l most (s + 1)).2 (by omega)
          rw [h8] at this
          cases this
      have q2 := Lib.hid (fun W (ho : Only (fun _ => False) w3 W) => hrw.out W ho (s + 1) (by omega))
      rw [hr2] at q2
      clear hr2 h8 h7 h6 h5
      go_wp2_with fail
      refine q1.out.mono ?_
      rintro e w6 ⟨rfl, ho⟩
      have hO6 := Lib.hid (hO5.out.trans' ho)
      clear ho
      go_wp2_with fail
      refine (q2.out w6 hO6.out).mono ?_
      rintro e w7 ⟨rfl, ho⟩
      have hO7 := Lib.hid (hO6.out.trans' ho)
      clear ho
      go_wp2
      rw [hZ'.out]
      exact ⟨rfl, hO3.out.trans' hO7.out⟩
theorem slacks_law (A : Option Addr) (n cap : Nat) (l : List Ld) (a1 : Int) (W : World) (h : LoadsIn W A n l) (w1 : (Lit.int .u64 a1).wf = true) :
    Calls Try.prog 4 #[.slice A n cap, .int .u64 a1] W fun e w' => e = .returned (.bool true) ∧ Below W.heap.size W w' := by
  obtain ⟨m, rfl, hm⟩ := u64_of w1
  exact (slacks_any h hm).mono fun e w' ⟨he, hO⟩ => ⟨he, hO.below (Nat.le_refl _) (fun _ h => h.elim)⟩
end Go.Proofs.Ytcgnboplpibcgaa
