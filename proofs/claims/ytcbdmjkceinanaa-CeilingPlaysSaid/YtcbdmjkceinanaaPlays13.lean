/- CeilingPlays' walk. -/
import Derived.Test.YtcbdmjkceinanaaPlays13a
import Derived.Test.YtcbdmjkceinanaaLong13
import Derived.Deep.CutBlock
namespace Go.Proofs.Ytcbdmjkceinanaa
open Go Go.RowKit

set_option maxRecDepth 100000 in
set_option maxHeartbeats 8000000 in
theorem plays13_any (A0 : Option Addr) (n cap0 : Nat) (zs : Nat → Int) (A : Option Addr) (len cap : Nat) (z : Nat → Nat → Value) (who base : Int) (w : World) (hn : n ≤ 20) (hl : len ≤ 150)
    (h0 : Row w A0 n (fun i => .int .i64 (zs i))) (hA : Acts w A len [.int .u8, .int .i64, .int .i64] z) :
    Calls Try.prog 3 #[.slice A0 n cap0, .slice A len cap, .int .i64 who, .int .i64 base] w fun e w' => e = .returned (.bool true) ∧ Below w.heap.size w w' := by
  have hA' := Lib.hid hA
  have h0' := Lib.hid h0
  clear hA h0
  have mk1 := fun W0 : World => run_make_bools W0 n (by omega)
  have mk2 := fun W0 : World => run_make_ints W0 n (by omega)
  go_enter Try.func3, Try.ntmps3
  go_wp2_with (go_at_call 7; refine (fixed13_any _).mono ?_; rintro e w1 ⟨rfl, hb1⟩; have hb1' := Lib.hid hb1; clear hb1)
  refine (new_any w1 A0 n cap0 zs (by omega) (h0'.out.below hb1'.out (Nat.le_refl _))).mono ?_
  rintro e w2 ⟨rfl, h2, o2⟩
  obtain ⟨b, hb⟩ : ∃ b, b = w1.heap.size + 1 := ⟨_, rfl⟩
  obtain ⟨g, hg⟩ : ∃ g, g = w1.heap.size := ⟨_, rfl⟩
  obtain ⟨B, hB⟩ : ∃ B, B = w.heap.size := ⟨_, rfl⟩
  rw [← hb, ← hg] at h2
  rw [← hb]
  obtain ⟨H, hH⟩ : ∃ H, H = w2.heap.size := ⟨_, rfl⟩
  obtain ⟨Y, hY⟩ : ∃ Y, Y = w2.heap.size + 1 := ⟨_, rfl⟩
  have hR : CR w B b g H Y n zs (fun _ => 0) (fun _ => false) (fun _ => false) (fun _ => 0) ((w2.alloc (.cells (bCells (fun _ => false) n).toArray 4)).alloc (.cells (iCells (fun _ => 0) n).toArray 3)) := by
    have hs := hb1'.out.size
    exact CR.start ⟨h2, (Only.of_new hb1'.out _).trans o2 (fun _ _ h => h.elim), by omega, by omega⟩ hH hY
  have hR' := Lib.hid hR
  have hBw := Lib.hid hB
  clear hR h2 o2 hb hg hB hb1'
  go_wp2
  rw [← hY, ← hH]
  clear hH hY mk1 mk2
  generalize World.alloc _ _ = W0 at hR' ⊢
  go_loopw [47] (fun i wr => ∃ k h d D y, k ≤ len ∧ i = .int .i64 (k : Nat) ∧ CR w B b g H Y n zs h d D y wr ∧ Tied n h d D y) (fun i _ => len - (intOf i).toNat)
  case atStart => exact ⟨0, _, _, _, _, Nat.zero_le _, rfl, hR'.out, fun i _ => ⟨rfl, fun _ => rfl⟩⟩
  case round =>
    clear hR'
    obtain ⟨k, h, d, D, y, hk, rfl, hR, hT⟩ := hrel
    obtain ⟨ws, hws⟩ : ∃ ws : World, ws = wr := ⟨_, rfl⟩
    subst hws
    have hO := Lib.hid hR.only
    have hR' := Lib.hid hR
    have hT' := Lib.hid hT
    clear hR hT
    by_cases hlt : k < len
    · obtain ⟨ba, off, rfl, hba, hc⟩ := (hA'.out.only hO.out (fun _ h => by have := hBw.out; omega)) k hlt
      obtain ⟨c0, e0⟩ := hc 0 (.int .u8) rfl
      obtain ⟨c1, e1⟩ := hc 1 (.int .i64) rfl
      obtain ⟨c2, e2⟩ := hc 2 (.int .i64) rfl
      obtain ⟨K, e0, hK⟩ := e0
      obtain ⟨I, e1, hI⟩ := e1
      obtain ⟨O, e2, hO'⟩ := e2
      rw [e0] at c0
      rw [e1] at c1
      rw [e2] at c2
      change ws.cell? ⟨ba, off + k * 3, none⟩ = _ at c0
      change ws.cell? ⟨ba, off + k * 3 + 1, none⟩ = _ at c1
      change ws.cell? ⟨ba, off + k * 3 + 2, none⟩ = _ at c2
      have hKb := bounds_u8 hK
      clear hc hI hO' e0 e1 e2 hK
      go_upto_region 11 with fail
      obtain ⟨X, hX⟩ : ∃ X, X = ws.heap.size := ⟨_, rfl⟩
      obtain ⟨W1, hW1⟩ : ∃ W1, W1 = ws.alloc (.cells #[.int .u8 K, .int .i64 I, .int .i64 O] 29) := ⟨_, rfl⟩
      have hP1 := hR'.out.act K I O hX
      rw [← hW1] at hP1
      rw [← hX, ← hW1]
      obtain ⟨d0, d1, d2, hXl⟩ := hP1.acts
      have hP1' := Lib.hid hP1
      clear hW1 hX hP1 c0 c1 c2 hba hR' hO ws
      obtain ⟨T, hT⟩ : ∃ T, T = decide (0 ≤ I ∧ I < n) := ⟨_, rfl⟩
      have hT2 := Lib.hid hT
      clear hT
      go_cut [14] from 51 to 60 (fun v wc => v = .bool T ∧ W1 = wc)
      case first =>
        by_cases i0 : 0 ≤ I
        · by_cases i1 : I < n
          · have hTT := Lib.hid (show T = true by rw [hT2.out]; simp [i0, i1])
            go_wp2
            go_meet
            case rel => exact ⟨by rw [hTT.out], rfl⟩
          · have hTT := Lib.hid (show T = false by rw [hT2.out]; simp [i1])
            go_wp2
            go_meet
            case rel => exact ⟨by rw [hTT.out], rfl⟩
        · have hTT := Lib.hid (show T = false by rw [hT2.out]; simp [i0])
          go_wp2
          go_meet
          case rel => exact ⟨by rw [hTT.out], rfl⟩
      obtain ⟨rfl, rfl⟩ := hcut
      go_upto_block 2 with fail
      go_cut [15, 16, 17] from 63 to 158 (fun _ _ _ wc => CEnd w B b g H Y X n zs K I O wc)
      case first =>
        have hK3 : K % 3 = 0 ∨ K % 3 = 1 ∨ K % 3 = 2 := by omega
        cases T with
        | false =>
          have hI : I < 0 ∨ (n : Int) ≤ I := by
            have : ¬ (0 ≤ I ∧ I < n) := by simpa using hT2.out.symm
            omega
          have q1 := Lib.hid (lock_no hP1'.out.1.1 hI O)
          have q2 := Lib.hid (unlock_no hP1'.out.1.1 hI O)
          have hE := Lib.hid (show CEnd w B b g H Y X n zs K I O W1 from ⟨_, _, _, _, hP1'.out, hT'.out⟩)
          clear hI hT2
          rcases hK3 with hK3 | hK3 | hK3
          · -- [F0
            go_wp2_with (go_at_call 9; refine q1.out.mono ?_; rintro e w' ⟨rfl, hw⟩; subst hw)
            go_meet
            case rel => exact hE.out
            -- F0]
          · -- [F1
            go_wp2_with (go_at_call 10; refine q2.out.mono ?_; rintro e w' ⟨rfl, hw⟩; subst hw)
            go_meet
            case rel => exact hE.out
            -- F1]
          · -- [F2
            as_aux_lemma =>
              obtain ⟨p, hp⟩ : ∃ p, p = mine y D O := ⟨_, rfl⟩
              have hp' := Lib.hid hp
              clear hp
              go_wp2
              go_loopw [131, 16, 17] (fun i c _ wr => ∃ j a : Nat, j ≤ n ∧ i = .int .i64 j ∧ c = .int .i64 a ∧ a = (pick p j).length ∧ CX w B b g H Y X n zs K I O h d (partD D p j) y wr) (fun i _ _ _ => n - (intOf i).toNat)
              case atStart => exact ⟨0, 0, Nat.zero_le _, rfl, rfl, rfl, by rw [partD_zero]; exact hP1'.out⟩
              case round =>
                clear hP1' d0 d1 d2 hXl
                obtain ⟨j, a, hj, rfl, rfl, ha, hQ⟩ := hrel
                obtain ⟨W2, hW2⟩ : ∃ W2 : World, W2 = wr := ⟨_, rfl⟩
                subst hW2
                have ha' : a ≤ 20 := by have := pick_len p j; omega
                have ha2 := Lib.hid ha
                clear ha
                obtain ⟨d0, d1, d2, hXl⟩ := hQ.acts
                have hQ' := Lib.hid hQ
                clear hQ
                by_cases hjn : j < n
                · have hjn' : (j : Int) < n := by omega
                  obtain ⟨r1, r2, r3, r4⟩ := hQ'.out.1.rows hjn
                  rw [partD_at] at r1
                  cases hD : D j with
                  | false =>
                    rw [hD] at r1
                    have hpj := Lib.hid (show p j = false by rw [hp'.out]; unfold Go.Proofs.Ytcbdmjkceinanaa.mine; rw [hD]; rfl)
                    clear hD r3 r4
                    go_upto_region 35 with fail
                    go_quiet (fail)
                    go_wp2
                    go_roundw
                    case rel => exact ⟨j + 1, a, by omega, by go_num, rfl, by rw [pick_no hpj.out]; exact ha2.out, by rw [← partD_no hpj.out]; exact hQ'.out.drewN _⟩
                    case measure => simp [intOf]; omega
                  | true =>
                    rw [hD] at r1
                    by_cases hy : y j = O
                    · have hpj := Lib.hid (show p j = true by rw [hp'.out]; unfold Go.Proofs.Ytcbdmjkceinanaa.mine; rw [hD, hy]; simp)
                      rw [hy] at r2
                      clear hD r3 r4 hy
                      go_upto_region 35 with fail
                      go_quiet (fail)
                      generalize hW : World.drewN _ _ = W3
                      have hQ2' := Lib.hid (show CX w B b g H Y X n zs K I O h d (partD D p j) y W3 from hW ▸ hQ'.out.drewN _)
                      clear hW hQ' d0 d1 d2 hXl r1 r2
                      obtain ⟨d0, d1, d2, hXl⟩ := hQ2'.out.acts
                      obtain ⟨r1, r2, r3, r4⟩ := hQ2'.out.1.rows hjn
                      go_wp2
                      go_roundw
                      case rel => exact ⟨j + 1, a + 1, by omega, by go_num, by go_num, by rw [pick_yes hpj.out, List.length_append, ha2.out]; rfl, by rw [← partD_yes hpj.out]; exact hQ2'.out.setH j false⟩
                      case measure => simp [intOf]; omega
                    · have hpj := Lib.hid (show p j = false by rw [hp'.out]; unfold Go.Proofs.Ytcbdmjkceinanaa.mine; simp [hy])
                      generalize y j = yj at r2 hy
                      clear hD r3 r4
                      go_upto_region 35 with fail
                      go_quiet (fail)
                      go_wp2
                      go_roundw
                      case rel => exact ⟨j + 1, a, by omega, by go_num, rfl, by rw [pick_no hpj.out]; exact ha2.out, by rw [← partD_no hpj.out]; exact hQ'.out.drewN _⟩
                      case measure => simp [intOf]; omega
                · obtain rfl : j = n := by omega
                  have q1 := free_any hQ'.out.1.1 (by omega) O
                  unfold FreeEnd at q1
                  rw [pick_congr (hT'.out.mine O), ← hp'.out, ← ha2.out] at q1
                  have q1' := Lib.hid q1
                  have hTl := hT'.out.free O
                  rw [← hp'.out] at hTl
                  have hTl' := Lib.hid hTl
                  clear q1 hTl
                  go_wp2_with (go_at_call 11; refine q1'.out.mono ?_; rintro e w4 ⟨rfl, h4, o4⟩; have hE := Lib.hid (show CEnd w B b g H Y X _ zs K I O w4 from ⟨_, _, _, _, hQ'.out.turned h4 o4, hTl'.out⟩); clear h4 o4)
                  go_meet
                  case rel => exact hE.out
            -- F2]
        | true =>
          rcases hK3 with hK3 | hK3 | hK3
          · -- [T0
            as_aux_lemma =>
              obtain ⟨i, hi, rfl⟩ : ∃ i : Nat, i < n ∧ I = i := by
                have : 0 ≤ I ∧ I < n := by simpa using hT2.out.symm
                exact ⟨I.toNat, by omega, by omega⟩
              have hi' : (i : Int) < n := by omega
              obtain ⟨t1, t2⟩ := hT'.out i hi
              obtain ⟨r1, r2, r3, r4⟩ := hP1'.out.1.rows hi
              cases hD : D i with
              | true =>
                rw [hD] at t1 r1
                have q1 := Lib.hid (lock_twice hP1'.out.1.1 hi t1 O)
                have hE := Lib.hid (show CEnd w B b g H Y X n zs K i O W1 from ⟨_, _, _, _, hP1'.out, hT'.out⟩)
                clear t1 t2 r2 r3 r4 hT2
                go_wp2_with (go_at_call 9; refine q1.out.mono ?_; rintro e w' ⟨rfl, hw⟩; subst hw)
                go_meet
                case rel => exact hE.out
              | false =>
                rw [hD] at t1 r1
                have hxs := hP1'.out.2.2
                obtain ⟨x1, x2, x3, x4⟩ := hxs
                have hHY := hP1'.out.1.2.2.2.1.2.2.2.2
                have hTl := Lib.hid (hT'.out.lock i O)
                have t1' := Lib.hid t1
                clear t1 t2 hT2 hD
                go_upto_region 15 with fail
                go_region
                go_upto_region 20 with fail
                have hP3 := ((hP1'.out.setH i true).setY i O).drew
                clear hP1' d0 d1 d2 r1 r2 r3 r4 hXl
                generalize World.drew _ = W3 at hP3 ⊢
                obtain ⟨d0, d1, d2, hXl⟩ := hP3.acts
                have q1 := Lib.hid (lock_free hP3.1.1 hi t1'.out O)
                have hP3' := Lib.hid hP3
                clear hP3
                go_wp2_with (go_at_call 9; refine q1.out.mono ?_; rintro e w4 ⟨rfl, h4, o4⟩; have hE := Lib.hid (show CEnd w B b g H Y X n zs K i O w4 from ⟨_, _, _, _, hP3'.out.turned h4 o4, hTl.out⟩); clear h4 o4)
                go_meet
                case rel => exact hE.out
            -- T0]
          · -- [T1
            as_aux_lemma =>
              obtain ⟨i, hi, rfl⟩ : ∃ i : Nat, i < n ∧ I = i := by
                have : 0 ≤ I ∧ I < n := by simpa using hT2.out.symm
                exact ⟨I.toNat, by omega, by omega⟩
              have hi' : (i : Int) < n := by omega
              obtain ⟨t1, t2⟩ := hT'.out i hi
              obtain ⟨r1, r2, r3, r4⟩ := hP1'.out.1.rows hi
              cases hD : D i with
              | false =>
                rw [hD] at t1 r1
                have hm : mine h d O i = false := by unfold Go.Proofs.Ytcbdmjkceinanaa.mine; rw [t1]; rfl
                have hm' := Lib.hid hm
                clear t1 t2 r2 r3 r4 hT2 hm hD
                go_upto_region 26 with fail
                go_quiet (fail)
                generalize hW : World.drewN _ _ = W2
                have hP2' := Lib.hid (show CX w B b g H Y X n zs K i O h d D y W2 from hW ▸ hP1'.out.drewN _)
                clear hW hP1' d0 d1 d2 hXl r1
                obtain ⟨d0, d1, d2, hXl⟩ := hP2'.out.acts
                have q1 := Lib.hid (unlock_not hP2'.out.1.1 hi O hm'.out)
                have hE := Lib.hid (show CEnd w B b g H Y X n zs K i O W2 from ⟨_, _, _, _, hP2'.out, hT'.out⟩)
                go_wp2_with (go_at_call 10; refine q1.out.mono ?_; rintro e w' ⟨rfl, hw⟩; subst hw)
                go_meet
                case rel => exact hE.out
              | true =>
                rw [hD] at t1 r1
                have hx := t2 hD
                by_cases hO : y i = O
                · have hm : mine h d O i = true := by unfold Go.Proofs.Ytcbdmjkceinanaa.mine; rw [t1, hx, hO]; simp
                  have hm' := Lib.hid hm
                  rw [hO] at r2
                  have hTl := Lib.hid (hT'.out.unlock i 0)
                  clear t1 t2 r3 r4 hT2 hm hD hx hO
                  go_upto_region 26 with fail
                  go_quiet (fail)
                  generalize hW : World.drewN _ _ = W2
                  have hP2' := Lib.hid (show CX w B b g H Y X n zs K i O h d D y W2 from hW ▸ hP1'.out.drewN _)
                  clear hW hP1' d0 d1 d2 hXl r1 r2
                  obtain ⟨d0, d1, d2, hXl⟩ := hP2'.out.acts
                  obtain ⟨r1, r2, r3, r4⟩ := hP2'.out.1.rows hi
                  go_upto_region 28 with fail
                  have hP3 := hP2'.out.setH i false
                  clear hP2' d0 d1 d2 r1 r2 r3 r4 hXl
                  generalize World.setCell _ _ _ = W3 at hP3 ⊢
                  obtain ⟨d0, d1, d2, hXl⟩ := hP3.acts
                  have q1 := Lib.hid (unlock_mine hP3.1.1 hi O hm'.out)
                  have hP3' := Lib.hid hP3
                  clear hP3
                  go_wp2_with (go_at_call 10; refine q1.out.mono ?_; rintro e w4 ⟨rfl, h4, o4⟩; have hE := Lib.hid (show CEnd w B b g H Y X n zs K i O w4 from ⟨_, _, _, _, hP3'.out.turned h4 o4, hTl.out⟩); clear h4 o4)
                  go_meet
                  case rel => exact hE.out
                · have hm : mine h d O i = false := by unfold Go.Proofs.Ytcbdmjkceinanaa.mine; rw [t1, hx]; simp [hO]
                  have hm' := Lib.hid hm
                  clear t1 t2 r3 r4 hT2 hm hD hx
                  go_upto_region 26 with fail
                  generalize y i = yi at r2 hO
                  go_quiet (fail)
                  generalize hW : World.drewN _ _ = W2
                  have hP2' := Lib.hid (show CX w B b g H Y X n zs K i O h d D y W2 from hW ▸ hP1'.out.drewN _)
                  clear hW hP1' d0 d1 d2 hXl r1 r2
                  obtain ⟨d0, d1, d2, hXl⟩ := hP2'.out.acts
                  have q1 := Lib.hid (unlock_not hP2'.out.1.1 hi O hm'.out)
                  have hE := Lib.hid (show CEnd w B b g H Y X n zs K i O W2 from ⟨_, _, _, _, hP2'.out, hT'.out⟩)
                  go_wp2_with (go_at_call 10; refine q1.out.mono ?_; rintro e w' ⟨rfl, hw⟩; subst hw)
                  go_meet
                  case rel => exact hE.out
            -- T1]
          · -- [T2
            as_aux_lemma =>
              obtain ⟨p, hp⟩ : ∃ p, p = mine y D O := ⟨_, rfl⟩
              have hp' := Lib.hid hp
              clear hT2 hp
              go_wp2
              go_loopw [131, 16, 17] (fun i c _ wr => ∃ j a : Nat, j ≤ n ∧ i = .int .i64 j ∧ c = .int .i64 a ∧ a = (pick p j).length ∧ CX w B b g H Y X n zs K I O h d (partD D p j) y wr) (fun i _ _ _ => n - (intOf i).toNat)
              case atStart => exact ⟨0, 0, Nat.zero_le _, rfl, rfl, rfl, by rw [partD_zero]; exact hP1'.out⟩
              case round =>
                clear hP1' d0 d1 d2 hXl
                obtain ⟨j, a, hj, rfl, rfl, ha, hQ⟩ := hrel
                obtain ⟨W2, hW2⟩ : ∃ W2 : World, W2 = wr := ⟨_, rfl⟩
                subst hW2
                have ha' : a ≤ 20 := by have := pick_len p j; omega
                have ha2 := Lib.hid ha
                clear ha
                obtain ⟨d0, d1, d2, hXl⟩ := hQ.acts
                have hQ' := Lib.hid hQ
                clear hQ
                by_cases hjn : j < n
                · have hjn' : (j : Int) < n := by omega
                  obtain ⟨r1, r2, r3, r4⟩ := hQ'.out.1.rows hjn
                  rw [partD_at] at r1
                  cases hD : D j with
                  | false =>
                    rw [hD] at r1
                    have hpj := Lib.hid (show p j = false by rw [hp'.out]; unfold Go.Proofs.Ytcbdmjkceinanaa.mine; rw [hD]; rfl)
                    clear hD r3 r4
                    go_upto_region 35 with fail
                    go_quiet (fail)
                    go_wp2
                    go_roundw
                    case rel => exact ⟨j + 1, a, by omega, by go_num, rfl, by rw [pick_no hpj.out]; exact ha2.out, by rw [← partD_no hpj.out]; exact hQ'.out.drewN _⟩
                    case measure => simp [intOf]; omega
                  | true =>
                    rw [hD] at r1
                    by_cases hy : y j = O
                    · have hpj := Lib.hid (show p j = true by rw [hp'.out]; unfold Go.Proofs.Ytcbdmjkceinanaa.mine; rw [hD, hy]; simp)
                      rw [hy] at r2
                      clear hD r3 r4 hy
                      go_upto_region 35 with fail
                      go_quiet (fail)
                      generalize hW : World.drewN _ _ = W3
                      have hQ2' := Lib.hid (show CX w B b g H Y X n zs K I O h d (partD D p j) y W3 from hW ▸ hQ'.out.drewN _)
                      clear hW hQ' d0 d1 d2 hXl r1 r2
                      obtain ⟨d0, d1, d2, hXl⟩ := hQ2'.out.acts
                      obtain ⟨r1, r2, r3, r4⟩ := hQ2'.out.1.rows hjn
                      go_wp2
                      go_roundw
                      case rel => exact ⟨j + 1, a + 1, by omega, by go_num, by go_num, by rw [pick_yes hpj.out, List.length_append, ha2.out]; rfl, by rw [← partD_yes hpj.out]; exact hQ2'.out.setH j false⟩
                      case measure => simp [intOf]; omega
                    · have hpj := Lib.hid (show p j = false by rw [hp'.out]; unfold Go.Proofs.Ytcbdmjkceinanaa.mine; simp [hy])
                      generalize y j = yj at r2 hy
                      clear hD r3 r4
                      go_upto_region 35 with fail
                      go_quiet (fail)
                      go_wp2
                      go_roundw
                      case rel => exact ⟨j + 1, a, by omega, by go_num, rfl, by rw [pick_no hpj.out]; exact ha2.out, by rw [← partD_no hpj.out]; exact hQ'.out.drewN _⟩
                      case measure => simp [intOf]; omega
                · obtain rfl : j = n := by omega
                  have q1 := free_any hQ'.out.1.1 (by omega) O
                  unfold FreeEnd at q1
                  rw [pick_congr (hT'.out.mine O), ← hp'.out, ← ha2.out] at q1
                  have q1' := Lib.hid q1
                  have hTl := hT'.out.free O
                  rw [← hp'.out] at hTl
                  have hTl' := Lib.hid hTl
                  clear q1 hTl
                  go_wp2_with (go_at_call 11; refine q1'.out.mono ?_; rintro e w4 ⟨rfl, h4, o4⟩; have hE := Lib.hid (show CEnd w B b g H Y X _ zs K I O w4 from ⟨_, _, _, _, hQ'.out.turned h4 o4, hTl'.out⟩); clear h4 o4)
                  go_meet
                  case rel => exact hE.out
            -- T2]
      case rest =>
        -- [R
        as_aux_lemma =>
          clear hP1' hT' hT2 d0 d1 d2 hXl
          obtain ⟨h2, e2, D2, y2, hP2, hT2⟩ := hcut
          obtain ⟨W2, hW2⟩ : ∃ W2 : World, W2 = wc := ⟨_, rfl⟩
          subst hW2
          obtain ⟨p, hp⟩ : ∃ p, p = mine y2 D2 who := ⟨_, rfl⟩
          obtain ⟨l, hl⟩ : ∃ l, l = pick p n := ⟨_, rfl⟩
          obtain ⟨m, hm⟩ : ∃ m, m = l.length := ⟨_, rfl⟩
          have hm20 : m ≤ 20 := by rw [hm, hl]; have := pick_len p n; omega
          have q1 := held_any hP2.1.1 (by omega) who
          rw [pick_congr (hT2.mine who), ← hp, ← hl] at q1
          unfold HeldEnd at q1
          rw [← hm] at q1
          have q1' := Lib.hid q1
          have q4 := fun W (hW : Only (fun _ => False) W2 W) => level_any (hP2.new hW).1.1 (by omega) who base
          rw [lev_congr (fun _ _ => rfl) (hT2.mine who), ← hp] at q4
          have q4' := Lib.hid q4
          have hP2' := Lib.hid hP2
          have hT2' := Lib.hid hT2
          have hp' := Lib.hid hp
          have hl' := Lib.hid hl
          have hm' := Lib.hid hm
          clear q1 hP2 hT2 hp hl hm q4
          go_upto_region 43 with (go_at_call 12; refine q1'.out.mono ?_; rintro e W3 ⟨v, h', rfl, hW, hf, hO3⟩)
          obtain ⟨A2, cap2, rfl, _, _⟩ := hW.form
          have hP3' := Lib.hid (hP2'.out.new hO3)
          have hW' := Lib.hid hW
          have q5 := Lib.hid (q4'.out W3 hO3)
          have hc0 := Lib.hid (h0'.out.only hP3'.out.only (fun _ h => by have := hBw.out; omega))
          clear hP2' hW hf hO3 q4' q1'
          go_wp2
          go_loopw [165, 18, 19] (fun i v c wr => ∃ (j a : Nat) (r : Int), j ≤ n ∧ i = .int .i64 j ∧ v = .int .i64 r ∧ c = .int .i64 a ∧ r = lev base zs p j ∧ a = (pick p j).length ∧ W3 = wr) (fun i _ _ _ => n - (intOf i).toNat)
          case atStart => exact ⟨0, 0, _, Nat.zero_le _, rfl, rfl, rfl, rfl, rfl, rfl⟩
          case round =>
            obtain ⟨j, a, r, hj, rfl, rfl, rfl, hr, ha, hw⟩ := hrel
            subst hw
            have ha' : a ≤ 20 := by have := pick_len p j; omega
            have ha2 := Lib.hid ha
            have hr2 := Lib.hid hr
            clear ha hr
            by_cases hjn : j < n
            · have hjn' : (j : Int) < n := by omega
              obtain ⟨r1, r2, r3, r4⟩ := hP3'.out.1.rows hjn
              obtain ⟨t1, t2⟩ := hT2'.out j hjn
              have q2 := holder_yes hP3'.out.1.1 hjn
              rw [t1] at q2
              clear r3 r4
              cases hD : D2 j with
              | false =>
                rw [hD] at r1 q2 t1
                rw [show whose h2 e2 j = 0 from if_neg (by rw [t1]; decide)] at q2
                have hpj := Lib.hid (show p j = false by rw [hp'.out]; unfold Go.Proofs.Ytcbdmjkceinanaa.mine; rw [hD]; rfl)
                have q2' := Lib.hid q2
                clear q2 t1 t2 hD
                go_wp2_with (go_at_call 13; refine q2'.out.mono ?_; rintro e w' ⟨rfl, hw⟩; subst hw)
                go_roundw
                case rel => exact ⟨j + 1, a, r, by omega, by go_num, rfl, rfl, by rw [lev_no hpj.out]; exact hr2.out, by rw [pick_no hpj.out]; exact ha2.out, by trivial⟩
                case measure => simp [intOf]; omega
              | true =>
                rw [hD] at r1 q2 t1
                rw [show whose h2 e2 j = y2 j from (if_pos t1).trans (t2 hD)] at q2
                have q2' := Lib.hid q2
                clear q2 t1 t2
                by_cases hy : y2 j = who
                · have hpj := Lib.hid (show p j = true by rw [hp'.out]; unfold Go.Proofs.Ytcbdmjkceinanaa.mine; rw [hD, hy]; simp)
                  rw [hy] at r2 q2'
                  obtain ⟨bz, oz, rfl, hcz, _⟩ := hc0.out j hjn
                  replace hcz : W3.cell? ⟨bz, oz + j, none⟩ = some (.int .i64 (zs j)) := hcz
                  have hat := pick_at hjn hpj.out
                  rw [← ha2.out, ← hl'.out] at hat
                  have ham : a < m := by rw [hm'.out]; exact (List.getElem?_eq_some_iff.1 hat).1
                  have ham' : (a : Int) < m := by omega
                  obtain ⟨q, off2, cap3, _, e, _, _, _, hcell, _⟩ := hW'.out.at_ (by omega)
                  simp only [Value.slice.injEq, true_and] at e
                  obtain ⟨rfl, rfl⟩ := e
                  have cq : W3.cell? ⟨q, off2 + a, none⟩ = some (.int .i64 (j : Int)) := hcell a _ (by unfold intV; rw [List.getElem?_map, hat]; rfl)
                  have hs := lev_yes (base := base) (z := zs) hpj.out
                  rw [← hr2.out] at hs
                  have hn2 := Lib.hid (show a + 1 = (pick p (j + 1)).length by rw [pick_yes hpj.out, List.length_append, ha2.out]; rfl)
                  clear hat hcell hD hy
                  obtain ⟨x, hx⟩ : ∃ x, x = zs j := ⟨_, rfl⟩
                  rw [← hx] at hs hcz
                  clear hx
                  by_cases hvx : x ≤ r
                  · have hs' := Lib.hid (show r = lev base zs p (j + 1) by omega)
                    clear hs
                    go_wp2_with (go_at_call 13; refine q2'.out.mono ?_; rintro e w' ⟨rfl, hw⟩; subst hw)
                    all_goals
                      go_roundw
                      case rel => exact ⟨j + 1, a + 1, r, by omega, by go_num, by first | rfl | (congr 1; omega), by go_num, hs'.out, hn2.out, by trivial⟩
                      case measure => simp [intOf]; omega
                  · have hs' := Lib.hid (show x = lev base zs p (j + 1) by omega)
                    clear hs
                    go_wp2_with (go_at_call 13; refine q2'.out.mono ?_; rintro e w' ⟨rfl, hw⟩; subst hw)
                    all_goals
                      go_roundw
                      case rel => exact ⟨j + 1, a + 1, x, by omega, by go_num, by first | rfl | (congr 1; omega), by go_num, hs'.out, hn2.out, by trivial⟩
                      case measure => simp [intOf]; omega
                · have hpj := Lib.hid (show p j = false by rw [hp'.out]; unfold Go.Proofs.Ytcbdmjkceinanaa.mine; simp [hy])
                  generalize y2 j = yj at r2 q2' hy
                  clear hD
                  go_wp2_with (go_at_call 13; refine q2'.out.mono ?_; rintro e w' ⟨rfl, hw⟩; subst hw)
                  go_roundw
                  case rel => exact ⟨j + 1, a, r, by omega, by go_num, rfl, rfl, by rw [lev_no hpj.out]; exact hr2.out, by rw [pick_no hpj.out]; exact ha2.out, by trivial⟩
                  case measure => simp [intOf]; omega
            · obtain rfl : j = n := by omega
              obtain rfl : a = m := by rw [ha2.out, hm'.out, hl'.out]
              have q6 := q5.out
              rw [← hr2.out] at q6
              have q6' := Lib.hid q6
              clear q5 q6
              go_wp2_with (go_at_call 14; refine q6'.out.mono ?_; rintro e w' ⟨rfl, hw⟩; subst hw)
              go_roundw
              case rel => exact ⟨k + 1, h2, e2, D2, y2, by omega, by go_num, hP3'.out.1, hT2'.out⟩
              case measure => simp [intOf]; omega
        -- R]
    · -- [E
      as_aux_lemma =>
        obtain rfl : k = len := by omega
        have hl2 := Lib.hid (len_any hR'.out.1.cell)
        have hO' := hO
        clear hR' hA' hO h0' hT'
        go_wp2_with fail
        refine (holder_nil _ _).mono ?_
        rintro e w' ⟨rfl, hw⟩
        subst hw
        go_wp2_with fail
        refine hl2.out.mono ?_
        rintro e w' ⟨rfl, hw⟩
        subst hw
        go_wp2_with fail
        refine (len_nil _).mono ?_
        rintro e w' ⟨rfl, hw⟩
        subst hw
        go_wp2_with fail
        refine (free_nil _ _).mono ?_
        rintro e w' ⟨rfl, hw⟩
        subst hw
        go_wp2_with fail
        refine (held_nil _ _).mono ?_
        rintro e w' ⟨rfl, hw⟩
        subst hw
        go_wp2_with fail
        refine (lock_nil _ _ _).mono ?_
        rintro e w' ⟨rfl, hw⟩
        subst hw
        go_wp2_with fail
        refine (level_nil _ _ _).mono ?_
        rintro e w' ⟨rfl, hw⟩
        subst hw
        go_wp2
        go_ret
        exact ⟨rfl, hO'.out.below (by have := hBw.out; omega) (fun _ h => by have := hBw.out; omega)⟩
      -- E]

theorem plays13 (A0 : Option Addr) (n cap0 : Nat) (zs : Nat → Int) (A : Option Addr) (len cap : Nat) (z : Nat → Nat → Value) (who base : Int) (w : World)
    (h0 : IntRow .i64 w A0 n zs) (hA : Acts w A len [.int .u8, .int .i64, .int .i64] z) (_ : (Lit.int .i64 who).wf = true) (_ : (Lit.int .i64 base).wf = true) :
    Calls Try.prog 3 #[.slice A0 n cap0, .slice A len cap, .int .i64 who, .int .i64 base] w fun e w' => e = .returned (.bool true) ∧ Below w.heap.size w w' := by
  by_cases hl : 20 < n ∨ 150 < len
  · exact plays13_long A0 n cap0 A len cap who base w hl
  · exact plays13_any A0 n cap0 zs A len cap z who base w (by omega) (by omega) h0.row hA
end Go.Proofs.Ytcbdmjkceinanaa
