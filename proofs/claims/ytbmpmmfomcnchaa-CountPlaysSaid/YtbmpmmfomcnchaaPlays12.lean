/- CountPlays' walk. -/
import Derived.Test.YtbmpmmfomcnchaaPlays12a
import Derived.Deep.CutBlock
namespace Go.Proofs.Ytbmpmmfomcnchaa
open Go Go.RowKit

set_option maxRecDepth 100000 in
theorem plays12_long (A0 : Option Addr) (n cap0 : Nat) (A1 : Option Addr) (l cap1 : Nat) (A2 : Option Addr) (lt cap2 : Nat) (w : World) (hl : 20 < n ∨ 200 < l) :
    Calls Try.prog 5 #[.slice A0 n cap0, .slice A1 l cap1, .slice A2 lt cap2] w fun e w' => e = .returned (.bool true) ∧ Below w.heap.size w w' := by
  by_cases h1 : 20 < n
  · go_enter Try.func5, Try.ntmps5
    go_wp2_with (go_at_call 14; refine (fixed12_any _).mono ?_; rintro e w1 ⟨rfl, hb1⟩; have hb1' := Lib.hid hb1; clear hb1)
    go_ret
    exact ⟨rfl, hb1'.out⟩
  · have h2 : 200 < l := by omega
    clear hl
    go_enter Try.func5, Try.ntmps5
    go_wp2_with (go_at_call 14; refine (fixed12_any _).mono ?_; rintro e w1 ⟨rfl, hb1⟩; have hb1' := Lib.hid hb1; clear hb1)
    go_ret
    exact ⟨rfl, hb1'.out⟩

set_option maxRecDepth 100000 in
set_option maxHeartbeats 8000000 in
theorem plays12_any (A0 : Option Addr) (n cap0 : Nat) (zs : Nat → Int) (A1 : Option Addr) (l cap1 : Nat) (is : Nat → Int) (A2 : Option Addr) (lt cap2 : Nat) (ts : Nat → Bool) (w : World) (hn : n ≤ 20) (hl : l ≤ 200)
    (h0 : Row w A0 n (fun i => .int .i64 (zs i))) (h1 : Row w A1 l (fun i => .int .i64 (is i))) (h2 : Row w A2 lt (fun i => .bool (ts i))) :
    Calls Try.prog 5 #[.slice A0 n cap0, .slice A1 l cap1, .slice A2 lt cap2] w fun e w' => e = .returned (.bool true) ∧ Below w.heap.size w w' := by
  have h0' := Lib.hid h0
  have h1' := Lib.hid h1
  have h2' := Lib.hid h2
  clear h0 h1 h2
  go_enter Try.func5, Try.ntmps5
  go_wp2_with (go_at_call 14; refine (fixed12_any _).mono ?_; rintro e w1 ⟨rfl, hb1⟩; have hb1' := Lib.hid hb1; clear hb1)
  refine (new_counts _ A0 n cap0 zs (by omega) (h0'.out.below hb1'.out (Nat.le_refl _))).mono ?_
  rintro e w2 ⟨b, g, m, rfl, hC, hm, B1, B2, ho2⟩
  have mk1 := run_make_list (P := Try.prog) w2 40 3 (.int .i64 0) 8 Try.underlying40 (by kernel_rfl) rfl n (by omega) (by omega)
  obtain ⟨B0, hB0⟩ : ∃ B0, B0 = w.heap.size := ⟨_, rfl⟩
  obtain ⟨X, hX⟩ : ∃ X, X = w2.heap.size := ⟨_, rfl⟩
  have hP : PRel w B0 b g X n m (fun _ => 0) (w2.alloc (.cells (nowCells (fun _ => 0) n).toArray 3)) := by
    have hs := hb1'.out.size
    have l1 : b < w2.heap.size := by obtain ⟨t, hb⟩ := hC.box; exact row_lt hb
    have l2 : g < w2.heap.size := row_lt hC.row
    have hO2 : Only (fun x => B0 ≤ x) w w2 := (Only.of_new hb1'.out _).trans ho2 (fun _ _ h => h.elim)
    have hs2 := hO2.size
    refine ⟨hC.kept ((Only.refl (fun _ => False) w2).alloc _) (fun h => h) (fun h => h), heap_new_at _ _ hX.symm, by omega, by omega, by omega, by omega, by omega, hO2.alloc _⟩
  rw [← nowCells_zero, List.toArray_replicate] at hP
  have hP' := Lib.hid hP
  have hB0' := Lib.hid hB0
  clear hP hC B1 B2 ho2 hb1' hB0
  go_wp2
  rw [← hX]
  clear mk1 hX
  generalize World.alloc _ _ = W0 at hP' ⊢
  go_loopw [9, 10, 11, 12, 13, 14, 15, 16, 17, 38, 102, 111, 119] (fun _ _ _ _ _ _ _ _ _ i _ _ _ wr => ∃ k F, k ≤ l ∧ i = .int .i64 (k : Nat) ∧ PRel w B0 b g X n m F wr) (fun _ _ _ _ _ _ _ _ _ i _ _ _ _ => l - (intOf i).toNat)
  case atStart => exact ⟨0, _, Nat.zero_le _, rfl, hP'.out⟩
  case round =>
    clear hP'
    obtain ⟨k, F, hk, rfl, hP⟩ := hrel
    obtain ⟨ws, hws⟩ : ∃ ws : World, ws = wr := ⟨_, rfl⟩
    subst hws
    have hO := Lib.hid hP.only
    have hP' := Lib.hid hP
    clear hP
    by_cases hkl : k < l
    · obtain ⟨ba, off, rfl, hc, _⟩ := (h1'.out.only hO.out (fun _ h => by have := hB0'.out; omega)) k hkl
      replace hc : ws.cell? ⟨ba, off + k, none⟩ = some (.int .i64 (is k)) := hc
      generalize is k = I at hc
      obtain ⟨T, hT⟩ : ∃ T, T = (decide (k < lt) && ts k) := ⟨_, rfl⟩
      have hT' := Lib.hid hT
      have h2k := Lib.hid (h2'.out.only hO.out (fun _ h => by have := hB0'.out; omega))
      clear hT
      go_upto_region 10 with fail
      go_cut [11] from 43 to 52 (fun v wc => v = .bool T ∧ ws = wc)
      case first =>
        by_cases hkt : k < lt
        · obtain ⟨bb, off2, rfl, hc2, _⟩ := h2k.out k hkt
          replace hc2 : ws.cell? ⟨bb, off2 + k, none⟩ = some (.bool (ts k)) := hc2
          have hTT := hT'.out
          rw [decide_eq_true hkt, Bool.true_and] at hTT
          rw [← hTT] at hc2
          clear hTT hT'
          go_wp2
          go_meet
          case rel => exact ⟨rfl, rfl⟩
        · have hTT := hT'.out
          rw [decide_eq_false hkt, Bool.false_and] at hTT
          subst hTT
          go_wp2
          go_meet
          case rel => exact ⟨rfl, rfl⟩
      case rest =>
        obtain ⟨rfl, rfl⟩ := hcut
        clear hT' h2k hc
        by_cases hin : I < 0 ∨ (n : Int) ≤ I
        · have hno1 := Lib.hid (take_no hP'.out.1 hin)
          have hno2 := Lib.hid (give_no hP'.out.1 hin)
          by_cases hneg : I < 0
          · clear hin
            cases T
            all_goals
              go_wp2_with (first | (go_at_call 16; refine hno1.out.mono ?_; rintro e w' ⟨rfl, hw⟩; subst hw) | (go_at_call 17; refine hno2.out.mono ?_; rintro e w' ⟨rfl, hw⟩; subst hw))
              go_roundw
              case rel => exact ⟨k + 1, F, by omega, by go_num, hP'.out⟩
              case measure => simp [intOf]; omega
          · have hbig : (n : Int) ≤ I := by omega
            clear hin
            cases T
            all_goals
              go_wp2_with (first | (go_at_call 16; refine hno1.out.mono ?_; rintro e w' ⟨rfl, hw⟩; subst hw) | (go_at_call 17; refine hno2.out.mono ?_; rintro e w' ⟨rfl, hw⟩; subst hw))
              go_roundw
              case rel => exact ⟨k + 1, F, by omega, by go_num, hP'.out⟩
              case measure => simp [intOf]; omega
        · obtain ⟨j, rfl⟩ : ∃ j : Nat, I = j := ⟨I.toNat, by omega⟩
          have hj : j < n := by omega
          have hj' : (j : Int) < n := by omega
          obtain ⟨bz, offz, rfl, hz0, hbz⟩ := h0'.out j hj
          have hz1 := Lib.hid (fun wr (ho : Only (fun x => B0 ≤ x) w wr) => ho.cell hz0 (fun h => by have := hB0'.out; simp at h; omega))
          have htk := Lib.hid (hP'.out.taken hj)
          have hgv := Lib.hid (hP'.out.given hj)
          have hmj := Lib.hid (hm j hj)
          have hm8 := (hP'.out.1.ok j hj)
          clear hz0 hbz hin hP' hO
          go_upto_if 53 with fail
          go_cut [12, 13] from 54 to 65 (fun v u wc => ∃ (x : Nat) (c : Int), v = .int .i64 x ∧ u = .int .i64 c ∧ Went w B0 b g X n m F T j x c wc)
          case first =>
            cases T
            all_goals
              go_wp2_with (first | (go_at_call 16; refine htk.out.mono ?_; rintro e w' ⟨x, c, rfl, hw⟩; have hw' := Lib.hid hw; clear hw) | (go_at_call 17; refine hgv.out.mono ?_; rintro e w' ⟨x, c, rfl, hw⟩; have hw' := Lib.hid hw; clear hw))
              go_meet
              case rel => exact ⟨x, c, rfl, rfl, hw'.out⟩
          case rest =>
            obtain ⟨x, c, rfl, rfl, hw⟩ := hcut
            obtain ⟨W1, hW1⟩ : ∃ W1 : World, W1 = wc := ⟨_, rfl⟩
            subst hW1
            have hOw := hw.only
            have hz2 : W1.cell? ⟨bz, offz + j, none⟩ = some (.int .i64 (zs j)) := hz1.out _ hOw
            have hw' := Lib.hid hw
            have hjn : ¬ (n : Int) ≤ j := by omega
            clear hw hOw hz1 htk hgv
            obtain ⟨z, hz⟩ : ∃ z, z = zs j := ⟨_, rfl⟩
            rw [← hz] at hz2
            obtain ⟨M, hM⟩ : ∃ M : Nat, M = m j := ⟨_, rfl⟩
            have hMz := Lib.hid (show M = mostN z by rw [hM, hz]; exact hmj.out)
            have hM' := Lib.hid hM
            clear hz hM hmj
            obtain ⟨Z, hZ⟩ : ∃ Z, Z = (decide (1 ≤ z) && decide (z ≤ 8)) := ⟨_, rfl⟩
            have hZ' := Lib.hid hZ
            clear hZ
            go_upto_region 20 with fail
            go_cut [91] from 80 to 91 (fun v wc => v = .bool Z ∧ W1 = wc)
            case first =>
              by_cases z1 : 1 ≤ z
              · by_cases z2 : z ≤ 8
                · have hZZ : Z = true := by rw [hZ'.out]; simp [z1, z2]
                  have hZZ' := Lib.hid hZZ
                  clear hZZ
                  go_wp2
                  go_meet
                  case rel => exact ⟨by rw [hZZ'.out], rfl⟩
                · have hZZ : Z = false := by rw [hZ'.out]; simp [z2]
                  have hZZ' := Lib.hid hZZ
                  clear hZZ
                  go_wp2
                  go_meet
                  case rel => exact ⟨by rw [hZZ'.out], rfl⟩
              · have hZZ : Z = false := by rw [hZ'.out]; simp [z1]
                have hZZ' := Lib.hid hZZ
                clear hZZ
                go_wp2
                go_meet
                case rel => exact ⟨by rw [hZZ'.out], rfl⟩
            case rest =>
              obtain ⟨rfl, rfl⟩ := hcut
              go_upto_if 91 with fail
              go_cut [14] from 92 to 95 (fun v wc => v = .int .i64 M ∧ W1 = wc)
              case first =>
                cases Z with
                | true =>
                  have hz : 1 ≤ z ∧ z ≤ 8 := by simpa using hZ'.out.symm
                  have hroom : z = (M : Int) := by rw [hMz.out]; unfold mostN; rw [if_neg (by omega)]; omega
                  have hroom' := Lib.hid hroom
                  clear hz hroom
                  go_wp2
                  go_meet
                  case rel => exact ⟨by rw [← hroom'.out], rfl⟩
                | false =>
                  have hz : ¬ (1 ≤ z ∧ z ≤ 8) := by simpa using hZ'.out.symm
                  have hroom : (1 : Int) = (M : Int) := by rw [hMz.out]; unfold mostN; rw [if_pos (by omega)]; rfl
                  have hroom' := Lib.hid hroom
                  clear hz hroom
                  go_wp2
                  go_meet
                  case rel => exact ⟨by rw [← hroom'.out], rfl⟩
              case rest =>
                obtain ⟨rfl, rfl⟩ := hcut
                clear hZ' hz2 hMz
                have hM := hM'.out
                rw [← hM] at hm8
                rcases hw'.out with h | h | h | h
                · obtain ⟨rfl, hF, rfl, rfl, hP4⟩ := h
                  obtain ⟨cX, fX⟩ := hP4.cells hj
                  have hval := Lib.hid (hP4.value hj)
                  rw [hF] at cX hval
                  have hP5 := Lib.hid hP4
                  clear hP4 hw' hM' hM hm8 hF
                  go_wp2_with (go_at_call 18; refine hval.out.mono ?_; rintro e w' ⟨rfl, hw⟩; subst hw)
                  go_roundw
                  case rel => exact ⟨k + 1, F, by omega, by go_num, hP5.out⟩
                  case measure => simp [intOf]; omega
                · obtain ⟨rfl, hF, rfl, cX, fX, _, hP4⟩ := h
                  have hval := Lib.hid (hP4.value hj)
                  rw [upd_self] at hval
                  obtain ⟨v, hv⟩ : ∃ v : Int, v = (F j : Int) := ⟨_, rfl⟩
                  rw [← hv] at cX
                  have hx : v - 1 = (x : Int) := by omega
                  have hv0 : (v == 0) = false := by simp; omega
                  have hvb : 1 ≤ v ∧ v ≤ 8 := by omega
                  have hxM : x ≤ M := by omega
                  have hP5 := Lib.hid hP4
                  clear hP4 hw' hM' hM hm8 hF hv
                  go_wp2_with (go_at_call 18; refine hval.out.mono ?_; rintro e w' ⟨rfl, hw⟩; subst hw)
                  go_roundw
                  case rel => exact ⟨k + 1, _, by omega, by go_num, hP5.out⟩
                  case measure => simp [intOf]; omega
                · obtain ⟨rfl, hF, rfl, rfl, hP4⟩ := h
                  obtain ⟨cX, fX⟩ := hP4.cells hj
                  have hval := Lib.hid (hP4.value hj)
                  rw [← hM] at hF
                  rw [hF] at cX hval ⊢
                  have hP5 := Lib.hid hP4
                  clear hP4 hw' hM' hM hm8 hF
                  go_wp2_with (go_at_call 18; refine hval.out.mono ?_; rintro e w' ⟨rfl, hw⟩; subst hw)
                  go_roundw
                  case rel => exact ⟨k + 1, F, by omega, by go_num, hP5.out⟩
                  case measure => simp [intOf]; omega
                · obtain ⟨rfl, hF, hxx, rfl, cX, fX, _, hP4⟩ := h
                  have hval := Lib.hid (hP4.value hj)
                  rw [upd_self] at hval
                  obtain ⟨v, hv⟩ : ∃ v : Int, v = (F j : Int) := ⟨_, rfl⟩
                  rw [← hv] at cX
                  rw [← hM] at hF
                  have hx : v + 1 = (x : Int) := by omega
                  have hv0 : (v == (M : Int)) = false := by simp; omega
                  have hvb : 0 ≤ v ∧ v ≤ 8 := by omega
                  have hxM : x ≤ M := by omega
                  have hP5 := Lib.hid hP4
                  clear hP4 hw' hM' hM hm8 hF hv hxx
                  go_wp2_with (go_at_call 18; refine hval.out.mono ?_; rintro e w' ⟨rfl, hw⟩; subst hw)
                  go_roundw
                  case rel => exact ⟨k + 1, _, by omega, by go_num, hP5.out⟩
                  case measure => simp [intOf]; omega
    · obtain rfl : k = l := by omega
      have hg := Lib.hid (len_any hP'.out.1.cell)
      go_wp2_with fail
      refine (give_nil _ _).mono ?_
      rintro e w' ⟨rfl, hw⟩
      subst hw
      go_wp2_with fail
      refine hg.out.mono ?_
      rintro e w' ⟨rfl, hw⟩
      subst hw
      go_wp2_with fail
      refine (len_nil _).mono ?_
      rintro e w' ⟨rfl, hw⟩
      subst hw
      go_wp2
      go_ret
      exact ⟨rfl, hO.out.below (by have := hB0'.out; omega) (fun _ h => by have := hB0'.out; omega)⟩

theorem plays12 (A0 : Option Addr) (n cap0 : Nat) (zs : Nat → Int) (A1 : Option Addr) (l cap1 : Nat) (is : Nat → Int) (A2 : Option Addr) (lt cap2 : Nat) (ts : Nat → Bool) (w : World)
    (h0 : IntRow .i64 w A0 n zs) (h1 : IntRow .i64 w A1 l is) (h2 : Row w A2 lt (fun i => .bool (ts i))) :
    Calls Try.prog 5 #[.slice A0 n cap0, .slice A1 l cap1, .slice A2 lt cap2] w fun e w' => e = .returned (.bool true) ∧ Below w.heap.size w w' := by
  by_cases hl : 20 < n ∨ 200 < l
  · exact plays12_long A0 n cap0 A1 l cap1 A2 lt cap2 w hl
  · exact plays12_any A0 n cap0 zs A1 l cap1 is A2 lt cap2 ts w (by omega) (by omega) h0.row h1.row h2
end Go.Proofs.Ytbmpmmfomcnchaa
