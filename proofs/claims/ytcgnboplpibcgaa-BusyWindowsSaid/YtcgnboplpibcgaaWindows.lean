/- BusyWindows and BusySlacks: the walks. -/
import Derived.Test.YtcgnboplpibcgaaIn25
namespace Go.Proofs.Ytcgnboplpibcgaa
open Go Go.RowKit
set_option maxRecDepth 100000 in
set_option maxHeartbeats 4000000 in
theorem windows_any {w : World} {A : Option Addr} {n cap d x most : Nat} {l : List Ld} (h : LoadsIn w A n l) (hd : d ≤ 18446744073709551615) (hx : x ≤ 18446744073709551615) (hm : most ≤ 18446744073709551615) :
    Calls Try.prog 3 #[U d, .slice A n cap, U x, U most] w (AnsB true w) := by
  have hI := Lib.hid h
  have hd' := Lib.hid hd
  have hx' := Lib.hid hx
  have hm' := Lib.hid hm
  obtain ⟨Z, hZ⟩ : ∃ Z, Z = AnsB true w := ⟨_, rfl⟩
  rw [← hZ]
  have hZ' := Lib.hid hZ
  clear h hd hx hm hZ
  by_cases h1 : 12 < n
  · have h1' : (12 : Int) < n := by omega
    go_enter Try.func3, Try.ntmps3
    go_wp2_with fail
    refine (fixed25_any _).mono ?_
    rintro e w2 ⟨rfl, ho⟩
    have hO2 := Lib.hid ho
    clear ho
    go_wp2
    rw [hZ'.out]
    exact ⟨rfl, hO2.out⟩
  by_cases h2 : 1500 < most
  · have h1' : ¬ (12 : Int) < n := by omega
    have h2' : (1500 : Int) < most := by omega
    go_enter Try.func3, Try.ntmps3
    go_wp2_with fail
    refine (fixed25_any _).mono ?_
    rintro e w2 ⟨rfl, ho⟩
    have hO2 := Lib.hid ho
    clear ho
    go_wp2
    rw [hZ'.out]
    exact ⟨rfl, hO2.out⟩
  have h1' : ¬ (12 : Int) < n := by omega
  have h2' : ¬ (1500 : Int) < most := by omega
  have hnn := Lib.hid (show n ≤ 1000 by omega)
  have hmm := Lib.hid (show most ≤ 100000 ∧ min most 16777216 = most by omega)
  clear h1 h2
  go_enter Try.func3, Try.ntmps3
  go_wp2_with fail
  refine (fixed25_any _).mono ?_
  rintro e w2 ⟨rfl, ho⟩
  have hO2 := Lib.hid ho
  clear ho
  go_wp2_with fail
  refine (split_any (hI.out.new hO2.out).row hI.out.len hnn.out).mono ?_
  rintro e w3 ⟨va, ha, vb, hb, rfl, hP⟩
  obtain ⟨pa, ca, rfl, -, -⟩ := hP.k.form
  obtain ⟨pb, cb, rfl, -, -⟩ := hP.g.form
  have hP' := Lib.hid hP
  have hO3 := Lib.hid (hO2.out.trans' hP.only)
  clear hP
  go_wp2_with fail
  refine (demand_any (hI.out.new hO3.out).row hI.out.len hnn.out hI.out.lb hd'.out hx'.out).mono ?_
  rintro e w4 ⟨rfl, ho⟩
  have hO4 := Lib.hid ho
  clear ho
  obtain ⟨D, hD⟩ : ∃ D, D = dem d l x := ⟨_, rfl⟩
  rw [← hD]
  have hD' := Lib.hid hD
  clear hD
  go_wp2_with fail
  refine (rdemand_any (hP'.out.k.kept hO4.out (fun _ _ h => h)) (hP'.out.g.kept hO4.out (fun _ _ h => h)) hI.out.len hnn.out hI.out.lb hd'.out hx'.out).mono ?_
  rintro e w5 ⟨rfl, ho⟩
  have hO5 := Lib.hid (hO4.out.trans' ho)
  clear ho
  rw [← hD'.out]
  go_wp2_with fail
  refine (window_any (hI.out.new (hO3.out.trans' hO5.out)).row hI.out.len hnn.out hI.out.lb hd'.out hm'.out).mono ?_
  rintro e w6 ⟨rfl, ho⟩
  have hO6 := Lib.hid (hO5.out.trans' ho)
  clear ho
  rw [hmm.out.2]
  obtain ⟨r, hr⟩ : ∃ r, r = win (dem d l) most := ⟨_, rfl⟩
  rw [← hr]
  have hr' := Lib.hid hr
  clear hr
  obtain ⟨bb, hbb⟩ : ∃ bb, bb = decide (0 < r) := ⟨_, rfl⟩
  rw [← hbb]
  obtain ⟨ro, hro⟩ : ∃ ro, ro = orU r := ⟨_, rfl⟩
  rw [← hro]
  have hb' := Lib.hid (And.intro hbb hro)
  clear hbb hro
  go_wp2_with fail
  refine (rwindow_any (hP'.out.k.kept hO6.out (fun _ _ h => h)) (hP'.out.g.kept hO6.out (fun _ _ h => h)) hI.out.len hnn.out hI.out.lb hd'.out hmm.out.1).mono ?_
  rintro e w7 ⟨rfl, ho⟩
  have hO7 := Lib.hid (hO3.out.trans' (hO6.out.trans' ho))
  clear ho
  rw [← hr'.out]
  by_cases h0 : r = 0
  · subst h0
    obtain ⟨e1, e2⟩ := hb'.out
    obtain rfl : bb = false := e1
    obtain rfl : ro = 18446744073709551615 := e2
    go_wp2
    rw [hZ'.out]
    exact ⟨rfl, hO7.out⟩
  · have h0' : ((r : Int) == 0) = false := by simpa using h0
    obtain ⟨e1, e2⟩ := hb'.out
    obtain rfl : bb = true := by rw [e1]; exact decide_eq_true (by omega)
    obtain rfl : ro = r := by rw [e2, orU, if_neg h0]
    clear e1 e2
    go_wp2
    rw [hZ'.out]
    exact ⟨by simp, hO7.out⟩
end Go.Proofs.Ytcgnboplpibcgaa
