/- The law of reading. -/
import Derived.Test.YthippdgmbfaijaaDoorLines20
import Derived.BigQuiet
namespace Go.Proofs.YthippdgmbfaijaaDoor
open Go Go.RowKit

set_option maxRecDepth 100000 in
set_option maxHeartbeats 4000000 in
theorem reads_law {w : World} (hb : Bas w) (s : List UInt8) : Calls Tryd.prog 4 #[.string (toBA s)] w (GrowB true w) := by
  have hB := Lib.hid (fun W (hW : Only (fun _ => False) w W) => hb.new hW)
  have q0 := Lib.hid (fixed_any hb)
  have hsz : (toBA s).size = s.length := toBA_size s
  by_cases h600 : 600 < s.length
  · have hbig : (600 : Int) < ((toBA s).size : Int) := by omega
    obtain ⟨S, hS⟩ : ∃ S, S = toBA s := ⟨_, rfl⟩
    rw [← hS] at hsz hbig ⊢
    clear hS
    go_enter Tryd.func4, Tryd.ntmps4
    go_wp2_with fail
    refine q0.out.mono ?_
    rintro e w2 ⟨rfl, hO2⟩
    have hO2' := Lib.hid hO2
    clear hO2
    go_wp2
    go_ret
    exact ⟨rfl, hO2'.out⟩
  · have hsm : ¬ (600 : Int) < ((toBA s).size : Int) := by omega
    have q1 := Lib.hid (fun W (hW : Only (fun _ => False) w W) => read_any (hB.out W hW) s (by omega))
    have q2 := Lib.hid (fun W => rread_any s (by omega) W)
    have q3 := Lib.hid (fun W (hW : Only (fun _ => False) w W) => parse_any (hB.out W hW) s (by omega))
    have q4 := Lib.hid (fun W => rparse_any s (by omega) W)
    unfold ReadEnd at q1 q2
    unfold ParseEnd at q3 q4
    obtain ⟨P, hP⟩ : ∃ P, P = (parseO s).getD zrec := ⟨_, rfl⟩
    rw [← hP] at q3 q4
    obtain ⟨B, hBB⟩ : ∃ B, B = (parseO s).isSome := ⟨_, rfl⟩
    rw [← hBB] at q3 q4
    obtain ⟨p0, p1, p2, p3, p4, p5, p6⟩ := P
    unfold RecV.val at q3 q4
    dsimp only at q3 q4
    obtain ⟨D, hD⟩ : ∃ D, D = readO s := ⟨_, rfl⟩
    rw [← hD] at q1 q2
    obtain ⟨S, hS⟩ : ∃ S, S = toBA s := ⟨_, rfl⟩
    rw [← hS] at hsz hsm q1 q2 q3 q4 ⊢
    clear hS hD hP hBB hb hB h600
    cases D with
    | none =>
      go_enter Tryd.func4, Tryd.ntmps4
      go_wp2_with fail
      refine q0.out.mono ?_
      rintro e w2 ⟨rfl, hO2⟩
      have hO2' := Lib.hid hO2
      clear hO2
      go_wp2_with fail
      refine (q1.out _ hO2'.out).mono ?_
      rintro e w3 ⟨rfl, hO3⟩
      have hO3' := Lib.hid (hO2'.out.trans' hO3)
      clear hO3
      go_wp2_with fail
      refine (q2.out _).mono ?_
      rintro e w4 ⟨rfl, hO4⟩
      have hO4' := Lib.hid (hO3'.out.trans' hO4)
      clear hO4
      go_wp2
      go_loopw [39] (fun i wr => i = .int .i64 0 ∧ wr = w4) (fun _ _ => 0)
      case atStart => exact ⟨rfl, rfl⟩
      case round =>
        obtain ⟨rfl, rfl⟩ := hrel
        go_wp2_with fail
        refine (q3.out _ hO4'.out).mono ?_
        rintro e w5 ⟨rfl, hO5⟩
        have hO5' := Lib.hid (hO4'.out.trans' hO5)
        clear hO5
        go_wp2_with fail
        refine (q4.out _).mono ?_
        rintro e w6 ⟨rfl, hO6⟩
        have hO6' := Lib.hid ((hO5'.out.alloc (.cells #[.int .i64 p0, .int .i64 p1, .int .i64 p2, .int .i64 p3, .int .i64 p4, .int .i64 p5, .int .i64 p6] 24)).trans' hO6)
        have hb5 := Lib.hid (hO6.heap (heap_new_at w5 (.cells #[.int .i64 p0, .int .i64 p1, .int .i64 p2, .int .i64 p3, .int .i64 p4, .int .i64 p5, .int .i64 p6] 24) rfl) (fun h => h))
        have c0 := row_cell hb5.out (L := [.int .i64 p0, .int .i64 p1, .int .i64 p2, .int .i64 p3, .int .i64 p4, .int .i64 p5, .int .i64 p6]) (i := 0) rfl
        have c1 := row_cell hb5.out (L := [.int .i64 p0, .int .i64 p1, .int .i64 p2, .int .i64 p3, .int .i64 p4, .int .i64 p5, .int .i64 p6]) (i := 1) rfl
        have c2 := row_cell hb5.out (L := [.int .i64 p0, .int .i64 p1, .int .i64 p2, .int .i64 p3, .int .i64 p4, .int .i64 p5, .int .i64 p6]) (i := 2) rfl
        have c3 := row_cell hb5.out (L := [.int .i64 p0, .int .i64 p1, .int .i64 p2, .int .i64 p3, .int .i64 p4, .int .i64 p5, .int .i64 p6]) (i := 3) rfl
        have c4 := row_cell hb5.out (L := [.int .i64 p0, .int .i64 p1, .int .i64 p2, .int .i64 p3, .int .i64 p4, .int .i64 p5, .int .i64 p6]) (i := 4) rfl
        have c5 := row_cell hb5.out (L := [.int .i64 p0, .int .i64 p1, .int .i64 p2, .int .i64 p3, .int .i64 p4, .int .i64 p5, .int .i64 p6]) (i := 5) rfl
        have c6 := row_cell hb5.out (L := [.int .i64 p0, .int .i64 p1, .int .i64 p2, .int .i64 p3, .int .i64 p4, .int .i64 p5, .int .i64 p6]) (i := 6) rfl
        have hl := row_lt hb5.out
        clear hO6
        go_wp2
        go_ret
        exact ⟨rfl, hO6'.out.alloc _⟩
    | some d =>
      go_enter Tryd.func4, Tryd.ntmps4
      go_wp2_with fail
      refine q0.out.mono ?_
      rintro e w2 ⟨rfl, hO2⟩
      have hO2' := Lib.hid hO2
      clear hO2
      go_wp2_with fail
      refine (q1.out _ hO2'.out).mono ?_
      rintro e w3 ⟨pA, cA, hA, rfl, hWA, -, hO3⟩
      have hRA := Lib.hid (hWA.recs rfl)
      have hnm : d.length ≤ 9223372036854775807 := by
        obtain ⟨_, cc, -, hf2, hf3⟩ := hWA.form
        unfold maxLen at hf3
        omega
      have hO3' := Lib.hid (hO2'.out.trans' hO3)
      clear hO3 hWA
      go_wp2_with fail
      refine (q2.out _).mono ?_
      rintro e w4 ⟨pB, cB, hB', rfl, hWB, -, hO4⟩
      have hRB := Lib.hid (hWB.recs rfl)
      have hRA4 := Lib.hid (hRA.out.new hO4)
      have hO4' := Lib.hid (hO3'.out.trans' hO4)
      clear hO4 hWB
      obtain ⟨n, hn⟩ : ∃ n, n = d.length := ⟨_, rfl⟩
      rw [← hn] at hnm ⊢
      have hn' := Lib.hid hn
      clear hn
      go_wp2
      go_loopw [39] (fun i wr => ∃ k : Nat, k ≤ n ∧ i = .int .i64 k ∧ Only (fun _ => False) w4 wr) (fun i _ => n - (intOf i).toNat)
      case atStart => exact ⟨0, Nat.zero_le _, rfl, Only.refl _ _⟩
      case round =>
        obtain ⟨k, hk, rfl, hOr⟩ := hrel
        obtain ⟨w4', hw4⟩ : ∃ ws : World, ws = wr := ⟨_, rfl⟩
        subst hw4
        have hOr' := Lib.hid hOr
        replace hRA4 := Lib.hid (hRA4.out.new hOr)
        replace hRB := Lib.hid (hRB.out.new hOr)
        replace hO4' := Lib.hid (hO4'.out.trans' hOr)
        clear hOr
        by_cases hkn : k < n
        · have hkn' : (k : Int) < (n : Int) := by omega
          obtain ⟨x, hx⟩ : ∃ x, d[k]? = some x := ⟨_, List.getElem?_eq_getElem (by have := hn'.out; omega)⟩
          obtain ⟨g, off, rfl, hg, a0, a1, a2, a3, a4, a5, a6⟩ := hRA4.out k x hx
          obtain ⟨g', off', rfl, hg', b0, b1, b2, b3, b4, b5, b6⟩ := hRB.out k x hx
          obtain ⟨x0, x1, x2, x3, x4, x5, x6⟩ := x
          dsimp only at a0 a1 a2 a3 a4 a5 a6 b0 b1 b2 b3 b4 b5 b6
          clear hx
          go_upto_region 12 with fail
          go_quiet (fail)
          go_wp2
          go_roundw
          case rel => exact ⟨k + 1, by omega, by go_num, hOr'.out.drewN _⟩
          case measure => simp [intOf]; omega
        · have hkn2 : k = n := by omega
          have hkn' : ¬ (k : Int) < (n : Int) := by omega
          clear hkn2 hkn
          go_wp2_with fail
          refine (q3.out _ hO4'.out).mono ?_
          rintro e w5 ⟨rfl, hO5⟩
          have hO5' := Lib.hid (hO4'.out.trans' hO5)
          clear hO5
          go_wp2_with fail
          refine (q4.out _).mono ?_
          rintro e w6 ⟨rfl, hO6⟩
          have hO6' := Lib.hid ((hO5'.out.alloc (.cells #[.int .i64 p0, .int .i64 p1, .int .i64 p2, .int .i64 p3, .int .i64 p4, .int .i64 p5, .int .i64 p6] 24)).trans' hO6)
          have hb5 := Lib.hid (hO6.heap (heap_new_at w5 (.cells #[.int .i64 p0, .int .i64 p1, .int .i64 p2, .int .i64 p3, .int .i64 p4, .int .i64 p5, .int .i64 p6] 24) rfl) (fun h => h))
          have c0 := row_cell hb5.out (L := [.int .i64 p0, .int .i64 p1, .int .i64 p2, .int .i64 p3, .int .i64 p4, .int .i64 p5, .int .i64 p6]) (i := 0) rfl
          have c1 := row_cell hb5.out (L := [.int .i64 p0, .int .i64 p1, .int .i64 p2, .int .i64 p3, .int .i64 p4, .int .i64 p5, .int .i64 p6]) (i := 1) rfl
          have c2 := row_cell hb5.out (L := [.int .i64 p0, .int .i64 p1, .int .i64 p2, .int .i64 p3, .int .i64 p4, .int .i64 p5, .int .i64 p6]) (i := 2) rfl
          have c3 := row_cell hb5.out (L := [.int .i64 p0, .int .i64 p1, .int .i64 p2, .int .i64 p3, .int .i64 p4, .int .i64 p5, .int .i64 p6]) (i := 3) rfl
          have c4 := row_cell hb5.out (L := [.int .i64 p0, .int .i64 p1, .int .i64 p2, .int .i64 p3, .int .i64 p4, .int .i64 p5, .int .i64 p6]) (i := 4) rfl
          have c5 := row_cell hb5.out (L := [.int .i64 p0, .int .i64 p1, .int .i64 p2, .int .i64 p3, .int .i64 p4, .int .i64 p5, .int .i64 p6]) (i := 5) rfl
          have c6 := row_cell hb5.out (L := [.int .i64 p0, .int .i64 p1, .int .i64 p2, .int .i64 p3, .int .i64 p4, .int .i64 p5, .int .i64 p6]) (i := 6) rfl
          have hl := row_lt hb5.out
          clear hO6
          go_wp2
          go_ret
          exact ⟨rfl, hO6'.out.alloc _⟩
end Go.Proofs.YthippdgmbfaijaaDoor
