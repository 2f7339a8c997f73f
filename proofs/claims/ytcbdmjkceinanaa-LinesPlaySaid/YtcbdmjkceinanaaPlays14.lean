/- LinesPlay's walk. -/
import Derived.Test.YtcbdmjkceinanaaPlays14a
import Derived.Deep.CutBlock
namespace Go.Proofs.Ytcbdmjkceinanaa
open Go Go.RowKit

set_option maxRecDepth 100000 in
theorem plays14_long (z : Int) (A : Option Addr) (len cap : Nat) (w : World) (hl : 200 < len) :
    Calls Try.prog 5 #[.int .i64 z, .slice A len cap] w fun e w' => e = .returned (.bool true) ∧ Below w.heap.size w w' := by
  go_enter Try.func5, Try.ntmps5
  go_wp2_with (go_at_call 16; refine (fixed14_any _).mono ?_; rintro e w1 ⟨rfl, hb1⟩; have hb1' := Lib.hid hb1; clear hb1)
  go_ret
  exact ⟨rfl, hb1'.out⟩

set_option maxRecDepth 100000 in
set_option maxHeartbeats 8000000 in
theorem plays14_any (zn : Int) (A : Option Addr) (len cap : Nat) (z : Nat → Nat → Value) (w : World) (hl : len ≤ 200) (hA : Acts w A len [.int .u8, .int .i64] z) :
    Calls Try.prog 5 #[.int .i64 zn, .slice A len cap] w fun e w' => e = .returned (.bool true) ∧ Below w.heap.size w w' := by
  have hA' := Lib.hid hA
  clear hA
  obtain ⟨n, hn⟩ : ∃ n, n = linesN zn := ⟨_, rfl⟩
  have hn8 : n ≤ 8 := by rw [hn]; unfold linesN; omega
  have hmm : min (max zn 0) 8 = (n : Int) := by rw [hn]; unfold linesN; omega
  have hnew := Lib.hid (fun W => lnew_any zn W)
  rw [← hn] at hnew
  have mk1 := Lib.hid (fun W0 : World => run_make_bools W0 n (by omega))
  clear hn
  go_enter Try.func5, Try.ntmps5
  go_wp2_with (go_at_call 16; refine (fixed14_any _).mono ?_; rintro e w1 ⟨rfl, hb1⟩; have hb1' := Lib.hid hb1; clear hb1)
  refine (hnew.out _).mono ?_
  rintro e w2 ⟨rfl, hG, hO⟩
  obtain ⟨b, hb⟩ : ∃ b, b = w1.heap.size + 1 := ⟨_, rfl⟩
  obtain ⟨g, hg⟩ : ∃ g, g = w1.heap.size := ⟨_, rfl⟩
  obtain ⟨B, hB⟩ : ∃ B, B = w.heap.size := ⟨_, rfl⟩
  rw [← hb, ← hg] at hG
  rw [← hb]
  have hP : LinesAt w2 b g n (fun _ => false) (fun _ => false) ∧ Only (fun x => B ≤ x) w w2 ∧ B ≤ b ∧ B ≤ g := by
    have hs := hb1'.out.size
    have hO2 : Only (fun x => B ≤ x) w w2 := (Only.of_new hb1'.out _).trans hO (fun _ _ h => h.elim)
    exact ⟨hG, hO2, by omega, by omega⟩
  have hP' := Lib.hid hP
  have hBw := Lib.hid hB
  clear hP hG hO hb hg hB hnew
  go_upto_region 6 with fail
  go_cut [6] from 27 to 29 (fun v wc => v = .int .i64 n ∧ w2 = wc)
  case first =>
    have hmm' := Lib.hid hmm
    clear hmm
    by_cases z0 : 0 ≤ zn
    · by_cases z4 : zn ≤ 8
      · have hz := Lib.hid (show zn = n by have := hmm'.out; omega)
        go_wp2
        all_goals
          go_meet
          case rel => exact ⟨by have := hz.out; have := hmm'.out; congr 1 <;> omega, rfl⟩
      · have hz := Lib.hid (show 8 = n by have := hmm'.out; omega)
        go_wp2
        all_goals
          go_meet
          case rel => exact ⟨by have := hz.out; have := hmm'.out; congr 1 <;> omega, rfl⟩
    · have hz := Lib.hid (show 0 = n by have := hmm'.out; omega)
      go_wp2
      all_goals
        go_meet
        case rel => exact ⟨by have := hz.out; have := hmm'.out; congr 1 <;> omega, rfl⟩
  obtain ⟨rfl, rfl⟩ := hcut
  clear hmm
  go_upto_region 7 with fail
  go_cut [7, 8] from 30 to 33 (fun u v wc => ∃ U V, u = .slice (some ⟨U, 0, none⟩) n n ∧ v = .slice (some ⟨V, 0, none⟩) n n ∧ LR w B b g U V n (fun _ => false) (fun _ => false) (fun _ => false) (fun _ => false) wc)
  case first =>
    have mk := mk1.out
    go_region
    · go_wp2_with fail
      go_meet
      case rel => exact ⟨_, _, rfl, rfl, LR.start hP'.out (.inl ⟨rfl, rfl⟩)⟩
    · go_wp2_with fail
      go_meet
      case rel => exact ⟨_, _, rfl, rfl, LR.start hP'.out (.inr ⟨rfl, rfl⟩)⟩
  obtain ⟨U, V, rfl, rfl, hR⟩ := hcut
  obtain ⟨W0, hW0⟩ : ∃ W0 : World, W0 = wc := ⟨_, rfl⟩
  subst hW0
  have hR' := Lib.hid hR
  clear hR hP'
  go_wp2
  go_loopw [36] (fun i wr => ∃ k f m, k ≤ len ∧ i = .int .i64 (k : Nat) ∧ LR w B b g U V n f m f m wr) (fun i _ => len - (intOf i).toNat)
  case atStart => exact ⟨0, _, _, Nat.zero_le _, rfl, hR'.out⟩
  case round =>
    clear hR'
    obtain ⟨k, f, m, hk, rfl, hR⟩ := hrel
    obtain ⟨ws, hws⟩ : ∃ ws : World, ws = wr := ⟨_, rfl⟩
    subst hws
    have hO := Lib.hid hR.only
    have hR' := Lib.hid hR
    clear hR
    by_cases hlt : k < len
    · obtain ⟨ba, off, rfl, hba, hc⟩ := (hA'.out.only hO.out (fun _ h => by have := hBw.out; omega)) k hlt
      obtain ⟨c0, e0⟩ := hc 0 (.int .u8) rfl
      obtain ⟨c1, e1⟩ := hc 1 (.int .i64) rfl
      obtain ⟨K, e0, hK⟩ := e0
      obtain ⟨I, e1, hI⟩ := e1
      rw [e0] at c0
      rw [e1] at c1
      change ws.cell? ⟨ba, off + k * 2, none⟩ = _ at c0
      change ws.cell? ⟨ba, off + k * 2 + 1, none⟩ = _ at c1
      have hKb := bounds_u8 hK
      clear hc hI e0 e1 hK
      go_upto_region 11 with fail
      obtain ⟨X, hX⟩ : ∃ X, X = ws.heap.size := ⟨_, rfl⟩
      obtain ⟨W1, hW1⟩ : ∃ W1, W1 = ws.alloc (.cells #[.int .u8 K, .int .i64 I] 44) := ⟨_, rfl⟩
      have hP1 := hR'.out.act K I hX
      rw [← hW1] at hP1
      rw [← hX, ← hW1]
      obtain ⟨d0, d1, hXl⟩ := hP1.cells
      have hP1' := Lib.hid hP1
      clear hW1 hX hP1 c0 c1 hba hR' hO ws
      obtain ⟨T, hT⟩ : ∃ T, T = decide (0 ≤ I ∧ I < n) := ⟨_, rfl⟩
      have hT' := Lib.hid hT
      clear hT
      go_cut [11] from 40 to 48 (fun v wc => v = .bool T ∧ W1 = wc)
      case first =>
        by_cases i0 : 0 ≤ I
        · by_cases i1 : I < n
          · have hTT := Lib.hid (show T = true by rw [hT'.out]; simp [i0, i1])
            go_wp2
            go_meet
            case rel => exact ⟨by rw [hTT.out], rfl⟩
          · have hTT := Lib.hid (show T = false by rw [hT'.out]; simp [i1])
            go_wp2
            go_meet
            case rel => exact ⟨by rw [hTT.out], rfl⟩
        · have hTT := Lib.hid (show T = false by rw [hT'.out]; simp [i0])
          go_wp2
          go_meet
          case rel => exact ⟨by rw [hTT.out], rfl⟩
      obtain ⟨rfl, rfl⟩ := hcut
      have hK3 : K % 3 = 0 ∨ K % 3 = 1 ∨ K % 3 = 2 := by omega
      cases T with
      | true =>
        have hI : 0 ≤ I ∧ I < n := by simpa using hT'.out.symm
        obtain ⟨i, rfl⟩ : ∃ i : Nat, I = i := ⟨I.toNat, by omega⟩
        have hi : i < n := by omega
        have hi' : (i : Int) < n := by omega
        clear hI hT'
        have fin : ∀ (f' m' : Nat → Bool) (W : World), LX w B b g U V X n K i f' m' f' m' W → Calls Try.prog 21 #[.pointer (some ⟨b, 0, none⟩), .int .i64 i] W (fun e w' => e = .returned (.bool (f' i)) ∧ W = w') ∧ Calls Try.prog 22 #[.pointer (some ⟨b, 0, none⟩), .int .i64 i] W (fun e w' => e = .returned (.bool (m' i)) ∧ W = w') :=
          fun f' m' W h => ⟨masked_yes h.lr.1 hi, latched_yes h.lr.1 hi⟩
        have fin' := Lib.hid fin
        clear fin
        rcases hK3 with hK3 | hK3 | hK3
        · have hr := Lib.hid (hP1'.out.raise hi)
          have hok := hP1'.out.lr.1.ok
          clear hP1'
          cases hf : f i with
          | true =>
            rw [hf] at hr
            go_upto_region 33 with (go_at_call 18; refine hr.out.mono ?_; rintro e W2 ⟨rfl, hP2⟩; obtain ⟨d0, d1, hXl⟩ := hP2.cells; obtain ⟨r1, r2, r3, r4⟩ := hP2.rows hi; rw [hf] at r1; have hP2' := Lib.hid hP2; clear hP2)
            have hP3 := hP2'.out.setV i true
            clear hP2' d0 d1 r1 r2 r3 r4 hXl
            generalize World.setCell _ _ _ = W3 at hP3 ⊢
            have hP3' := Lib.hid hP3
            have q1 := Lib.hid (fin'.out _ _ _ hP3).1
            have q2 := Lib.hid (fin'.out _ _ _ hP3).2
            obtain ⟨d0, d1, hXl⟩ := hP3.cells
            obtain ⟨r1, r2, r3, r4⟩ := hP3.rows hi
            clear hP3 r3 r4
            generalize f i = p1 at q1 r1
            generalize upd m i true i = p2 at q2 r2
            cases p1 <;> cases p2
            all_goals
              go_wp2_with (first | (go_at_call 21; refine q1.out.mono ?_; rintro e w' ⟨rfl, hw⟩; subst hw) | (go_at_call 22; refine q2.out.mono ?_; rintro e w' ⟨rfl, hw⟩; subst hw))
              go_roundw
              case rel => exact ⟨k + 1, _, _, by omega, by go_num, hP3'.out.lr⟩
              case measure => simp [intOf]; omega
          | false =>
            have hmi : m i = false := by
              cases hm : m i with
              | false => rfl
              | true => exact absurd (hok i hm) (by rw [hf]; decide)
            rw [hf, show upd m i false = m from by rw [← hmi]; exact upd_same m i] at hr
            go_upto_region 33 with (go_at_call 18; refine hr.out.mono ?_; rintro e W2 ⟨rfl, hP2⟩; obtain ⟨d0, d1, hXl⟩ := hP2.cells; obtain ⟨r1, r2, r3, r4⟩ := hP2.rows hi; rw [hf] at r1; have hP2' := Lib.hid hP2; clear hP2)
            have hP3 := hP2'.out
            clear hP2' d0 d1 r1 r2 r3 r4 hXl
            have hP3' := Lib.hid hP3
            have q1 := Lib.hid (fin'.out _ _ _ hP3).1
            have q2 := Lib.hid (fin'.out _ _ _ hP3).2
            obtain ⟨d0, d1, hXl⟩ := hP3.cells
            obtain ⟨r1, r2, r3, r4⟩ := hP3.rows hi
            clear hP3 r3 r4
            generalize f i = p1 at q1 r1
            generalize m i = p2 at q2 r2
            cases p1 <;> cases p2
            all_goals
              go_wp2_with (first | (go_at_call 21; refine q1.out.mono ?_; rintro e w' ⟨rfl, hw⟩; subst hw) | (go_at_call 22; refine q2.out.mono ?_; rintro e w' ⟨rfl, hw⟩; subst hw))
              go_roundw
              case rel => exact ⟨k + 1, _, _, by omega, by go_num, hP3'.out.lr⟩
              case measure => simp [intOf]; omega
        · have hr := Lib.hid (hP1'.out.mask hi)
          clear hP1'
          go_upto_region 33 with (go_at_call 19; refine hr.out.mono ?_; rintro e W2 ⟨rfl, hP2⟩; obtain ⟨d0, d1, hXl⟩ := hP2.cells; obtain ⟨r1, r2, r3, r4⟩ := hP2.rows hi; have hP2' := Lib.hid hP2; clear hP2)
          have hP3 := hP2'.out.setU i true
          clear hP2' d0 d1 r1 r2 r3 r4 hXl
          generalize World.setCell _ _ _ = W3 at hP3 ⊢
          have hP3' := Lib.hid hP3
          have q1 := Lib.hid (fin'.out _ _ _ hP3).1
          have q2 := Lib.hid (fin'.out _ _ _ hP3).2
          obtain ⟨d0, d1, hXl⟩ := hP3.cells
          obtain ⟨r1, r2, r3, r4⟩ := hP3.rows hi
          clear hP3 r3 r4
          generalize upd f i true i = p1 at q1 r1
          generalize m i = p2 at q2 r2
          cases p1 <;> cases p2
          all_goals
            go_wp2_with (first | (go_at_call 21; refine q1.out.mono ?_; rintro e w' ⟨rfl, hw⟩; subst hw) | (go_at_call 22; refine q2.out.mono ?_; rintro e w' ⟨rfl, hw⟩; subst hw))
            go_roundw
            case rel => exact ⟨k + 1, _, _, by omega, by go_num, hP3'.out.lr⟩
            case measure => simp [intOf]; omega
        · have hr := Lib.hid (hP1'.out.unmask hi)
          clear hP1'
          obtain ⟨q, hq⟩ : ∃ q, q = m i := ⟨_, rfl⟩
          rw [← hq] at hr
          go_upto_region 32 with (go_at_call 20; refine hr.out.mono ?_; rintro e W2 ⟨rfl, hP2⟩; obtain ⟨d0, d1, hXl⟩ := hP2.cells; obtain ⟨r1, r2, r3, r4⟩ := hP2.rows hi; rw [← hq] at r2; have hP2' := Lib.hid hP2; clear hP2)
          have hxs := hP2'.out.2.2
          obtain ⟨x1, x2, x3, x4⟩ := hxs
          have hUV := hP2'.out.1.2.2.2.1.2.2.2.2
          clear mk1
          go_region
          have hP3 := ((hP2'.out.setU i false).setV i false).drew
          clear hP2' d0 d1 r1 r2 r3 r4 hXl
          generalize World.drew _ = W3 at hP3 ⊢
          go_upto_region 33 with fail
          have hP3' := Lib.hid hP3
          have q1 := Lib.hid (fin'.out _ _ _ hP3).1
          have q2 := Lib.hid (fin'.out _ _ _ hP3).2
          obtain ⟨d0, d1, hXl⟩ := hP3.cells
          obtain ⟨r1, r2, r3, r4⟩ := hP3.rows hi
          clear hP3 r3 r4
          rw [upd_self] at q1 r1
          rw [upd_self] at q2 r2
          go_wp2_with (first | (go_at_call 21; refine q1.out.mono ?_; rintro e w' ⟨rfl, hw⟩; subst hw) | (go_at_call 22; refine q2.out.mono ?_; rintro e w' ⟨rfl, hw⟩; subst hw))
          go_roundw
          case rel => exact ⟨k + 1, _, _, by omega, by go_num, hP3'.out.lr⟩
          case measure => simp [intOf]; omega
      | false =>
        have hI : I < 0 ∨ (n : Int) ≤ I := by
          have : ¬ (0 ≤ I ∧ I < n) := by simpa using hT'.out.symm
          omega
        have hl := hP1'.out.lr.1
        have q1 := Lib.hid (raise_no hl hI)
        have q2 := Lib.hid (mask_no hl hI)
        have q3 := Lib.hid (unmask_no hl hI)
        have q4 := Lib.hid (masked_no hl hI)
        have q5 := Lib.hid (latched_no hl hI)
        clear hl hI hT'
        rcases hK3 with hK3 | hK3 | hK3
        all_goals
          go_wp2_with (first | (go_at_call 18; refine q1.out.mono ?_; rintro e w' ⟨rfl, hw⟩; subst hw) | (go_at_call 19; refine q2.out.mono ?_; rintro e w' ⟨rfl, hw⟩; subst hw) | (go_at_call 20; refine q3.out.mono ?_; rintro e w' ⟨rfl, hw⟩; subst hw) | (go_at_call 21; refine q4.out.mono ?_; rintro e w' ⟨rfl, hw⟩; subst hw) | (go_at_call 22; refine q5.out.mono ?_; rintro e w' ⟨rfl, hw⟩; subst hw))
          go_roundw
          case rel => exact ⟨k + 1, f, m, by omega, by go_num, hP1'.out.lr⟩
          case measure => simp [intOf]; omega
    · obtain rfl : k = len := by omega
      have hl1 := hR'.out.1.cell
      have hO' := hO
      have hl2 := Lib.hid (llen_any hl1)
      clear hR' hA' hO hl1 mk1
      go_wp2_with fail
      refine (raise_nil _ _).mono ?_
      rintro e w' ⟨rfl, hw⟩
      subst hw
      go_wp2_with fail
      refine hl2.out.mono ?_
      rintro e w' ⟨rfl, hw⟩
      subst hw
      go_wp2_with fail
      refine (llen_nil _).mono ?_
      rintro e w' ⟨rfl, hw⟩
      subst hw
      go_wp2_with fail
      refine (mask_nil _ _).mono ?_
      rintro e w' ⟨rfl, hw⟩
      subst hw
      go_wp2_with fail
      refine (masked_nil _ _).mono ?_
      rintro e w' ⟨rfl, hw⟩
      subst hw
      go_wp2_with fail
      refine (latched_nil _ _).mono ?_
      rintro e w' ⟨rfl, hw⟩
      subst hw
      go_wp2
      go_ret
      exact ⟨rfl, hO'.out.below (by have := hBw.out; omega) (fun _ h => by have := hBw.out; omega)⟩

theorem plays14 (zn : Int) (A : Option Addr) (len cap : Nat) (z : Nat → Nat → Value) (w : World) (_ : (Lit.int .i64 zn).wf = true) (hA : Acts w A len [.int .u8, .int .i64] z) :
    Calls Try.prog 5 #[.int .i64 zn, .slice A len cap] w fun e w' => e = .returned (.bool true) ∧ Below w.heap.size w w' := by
  by_cases hl : 200 < len
  · exact plays14_long zn A len cap w hl
  · exact plays14_any zn A len cap z w (by omega) hA
end Go.Proofs.Ytcbdmjkceinanaa
