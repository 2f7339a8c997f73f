/- FlagsPlay's walk. -/
import Derived.Test.YtbmpmmfomcnchaaPlays11s
namespace Go.Proofs.Ytbmpmmfomcnchaa
open Go Go.RowKit

set_option maxRecDepth 100000 in
theorem plays11_long (z : Int) (A : Option Addr) (len cap : Nat) (w : World) (hl : 150 < len) :
    Calls Try.prog 3 #[.int .i64 z, .slice A len cap] w fun e w' => e = .returned (.bool true) ∧ Below w.heap.size w w' := by
  go_enter Try.func3, Try.ntmps3
  go_wp2_with (go_at_call 7; refine (fixed11_any _).mono ?_; rintro e w1 ⟨rfl, hb1⟩; have hb1' := Lib.hid hb1; clear hb1)
  go_ret
  exact ⟨rfl, hb1'.out⟩

set_option maxRecDepth 100000 in
set_option maxHeartbeats 8000000 in
theorem plays11_any (zn : Int) (A : Option Addr) (len cap : Nat) (z : Nat → Nat → Value) (w : World) (hl : len ≤ 150) (hA : Acts w A len [.int .u8, .int .i64, .int .i64] z) :
    Calls Try.prog 3 #[.int .i64 zn, .slice A len cap] w fun e w' => e = .returned (.bool true) ∧ Below w.heap.size w w' := by
  have hA' := Lib.hid hA
  clear hA
  obtain ⟨n, hn⟩ : ∃ n, n = manyN zn := ⟨_, rfl⟩
  have hn4 : n ≤ 4 := hn ▸ manyN_le zn
  have hmm : min (max zn 0) 4 = (n : Int) := by rw [hn]; unfold manyN; omega
  have hnew := Lib.hid (fun W => gnew_any zn W)
  rw [← hn] at hnew
  have mk1 := fun W0 : World => run_make_ups W0 n hn4
  clear hn
  go_enter Try.func3, Try.ntmps3
  go_wp2_with (go_at_call 7; refine (fixed11_any _).mono ?_; rintro e w1 ⟨rfl, hb1⟩; have hb1' := Lib.hid hb1; clear hb1)
  refine (hnew.out _).mono ?_
  rintro e w2 ⟨rfl, hG, hO⟩
  obtain ⟨b, hb⟩ : ∃ b, b = w1.heap.size + 1 := ⟨_, rfl⟩
  obtain ⟨g, hg⟩ : ∃ g, g = w1.heap.size := ⟨_, rfl⟩
  obtain ⟨U, hU⟩ : ∃ U, U = w2.heap.size := ⟨_, rfl⟩
  obtain ⟨B, hB⟩ : ∃ B, B = w.heap.size := ⟨_, rfl⟩
  rw [← hb, ← hg] at hG
  rw [← hb]
  have hP : PF w B b g U n (fun _ => 0#8) (w2.alloc (.cells (upCells (bitsOf fun _ => 0#8) n).toArray 29)) := by
    have hs := hb1'.out.size
    have l1 : b < w2.heap.size := by obtain ⟨t, hb⟩ := hG.box; exact row_lt hb
    have l2 : g < w2.heap.size := row_lt hG.row
    have hO2 : Only (fun x => B ≤ x) w w2 := (Only.of_new hb1'.out _).trans hO (fun _ _ h => h.elim)
    exact ⟨hG.new ((Only.refl (fun _ => False) w2).alloc _), heap_new_at _ _ hU.symm, by omega, by omega, by omega, by omega, by have := hO2.size; omega, hO2.alloc _⟩
  have hP' := Lib.hid hP
  have hBw := Lib.hid hB
  clear hP hG hO hb1' hb hg hB hnew
  go_upto_region 6 with fail
  go_cut [6] from 38 to 40 (fun v wc => v = .int .i64 n ∧ w2 = wc)
  case first =>
    have hmm' := Lib.hid hmm
    clear hmm
    by_cases z0 : 0 ≤ zn
    · by_cases z4 : zn ≤ 4
      · have hz := Lib.hid (show zn = n by have := hmm'.out; omega)
        go_wp2
        all_goals
          go_meet
          case rel => exact ⟨by have := hz.out; have := hmm'.out; congr 1 <;> omega, rfl⟩
      · have hz := Lib.hid (show 4 = n by have := hmm'.out; omega)
        go_wp2
        all_goals
          go_meet
          case rel => exact ⟨by have := hz.out; have := hmm'.out; congr 1 <;> omega, rfl⟩
    · have hz := Lib.hid (show 0 = n by have := hmm'.out; omega)
      go_wp2
      all_goals
        go_meet
        case rel => exact ⟨by have := hz.out; have := hmm'.out; congr 1 <;> omega, rfl⟩
  obtain ⟨rfl, rfl⟩ := hcut
  go_wp2
  rw [← hU]
  clear mk1 hU hmm
  generalize World.alloc _ _ = W0 at hP' ⊢
  go_loopw [9, 10, 11, 12, 13, 14, 15, 16, 17, 18, 19, 20, 21, 22, 23, 24, 25, 45, 127, 146, 165, 184] (fun _ _ _ _ _ _ _ _ _ _ _ _ _ _ _ _ _ i _ _ _ _ wr => ∃ k v, k ≤ len ∧ i = .int .i64 (k : Nat) ∧ PF w B b g U n v wr) (fun _ _ _ _ _ _ _ _ _ _ _ _ _ _ _ _ _ i _ _ _ _ _ => len - (intOf i).toNat)
  case atStart => exact ⟨0, _, Nat.zero_le _, rfl, hP'.out⟩
  case round =>
    clear hP'
    obtain ⟨k, v, hk, rfl, hP⟩ := hrel
    obtain ⟨ws, hws⟩ : ∃ ws : World, ws = wr := ⟨_, rfl⟩
    subst hws
    have hO := Lib.hid hP.only
    have hP' := Lib.hid hP
    clear hP
    by_cases hlt : k < len
    · obtain ⟨ba, off, rfl, hba, hc⟩ := (hA'.out.only hO.out (fun _ h => by have := hBw.out; omega)) k hlt
      obtain ⟨c0, e0⟩ := hc 0 (.int .u8) rfl
      obtain ⟨c1, e1⟩ := hc 1 (.int .i64) rfl
      obtain ⟨c2, e2⟩ := hc 2 (.int .i64) rfl
      obtain ⟨K, e0, hK⟩ := e0
      obtain ⟨I, e1, hI⟩ := e1
      obtain ⟨M, e2, hM⟩ := e2
      rw [e0] at c0
      rw [e1] at c1
      rw [e2] at c2
      change ws.cell? ⟨ba, off + k * 3, none⟩ = _ at c0
      change ws.cell? ⟨ba, off + k * 3 + 1, none⟩ = _ at c1
      change ws.cell? ⟨ba, off + k * 3 + 2, none⟩ = _ at c2
      have hKb := bounds_u8 hK
      clear hc hI hM e0 e1 e2 hK
      go_upto_region 11 with fail
      obtain ⟨X, hX⟩ : ∃ X, X = ws.heap.size := ⟨_, rfl⟩
      obtain ⟨W1, hW1⟩ : ∃ W1, W1 = ws.alloc (.cells #[.int .u8 K, .int .i64 I, .int .i64 M] 28) := ⟨_, rfl⟩
      rw [← hX, ← hW1]
      have o1 : Only (fun _ => False) ws W1 := hW1 ▸ (Only.refl _ ws).alloc _
      have hXb : W1.heap[X]? = some (.cells #[.int .u8 K, .int .i64 I, .int .i64 M] 28 (0, 0)) := by rw [hW1, hX]; exact heap_alloc_new _ _
      have hP1 : PF w B b g U n v W1 ∧ X ≠ b ∧ X ≠ g ∧ X ≠ U ∧ B ≤ X := by
        obtain ⟨p1, p2, p3, p4, p5, p6, p7, p8⟩ := hP'.out
        have l1 : b < ws.heap.size := by obtain ⟨t, hb⟩ := p1.box; exact row_lt hb
        have l2 : g < ws.heap.size := row_lt p1.row
        have l3 := row_lt p2
        exact ⟨⟨p1.new o1, o1.heap p2 (fun h => h), p3, p4, p5, p6, p7, p8.trans' (o1.mono (fun _ _ h => h.elim))⟩, by omega, by omega, by omega, by omega⟩
      have d0 : W1.cell? ⟨X, 0, none⟩ = some (.int .u8 K) := by simp [World.cell?, hXb]
      have d1 : W1.cell? ⟨X, 1, none⟩ = some (.int .i64 I) := by simp [World.cell?, hXb]
      have d2 : W1.cell? ⟨X, 2, none⟩ = some (.int .i64 M) := by simp [World.cell?, hXb]
      have hP1' := Lib.hid hP1
      have hXb' := Lib.hid hXb
      have hXl : X < W1.heap.size := row_lt hXb
      clear hW1 hX o1 hP1 hXb c0 c1 c2 hba hP' hO ws
      obtain ⟨T, hT⟩ : ∃ T, T = decide (0 ≤ I ∧ I < n) := ⟨_, rfl⟩
      have hT' := Lib.hid hT
      clear hT
      go_cut [10] from 49 to 57 (fun v wc => v = .bool T ∧ W1 = wc)
      case first =>
        by_cases i0 : 0 ≤ I
        · by_cases i1 : I < n
          · have hTT := Lib.hid (show T = true by rw [hT'.out]; simp [i0, i1])
            go_wp2
            go_meet
            case rel => exact ⟨by rw [hTT.out], rfl⟩
          · have hTT := Lib.hid (show T = false by rw [hT'.out]; simp [i1])
            go_wp2
            go_meet
            case rel => exact ⟨by rw [hTT.out], rfl⟩
        · have hTT := Lib.hid (show T = false by rw [hT'.out]; simp [i0])
          go_wp2
          go_meet
          case rel => exact ⟨by rw [hTT.out], rfl⟩
      obtain ⟨rfl, rfl⟩ := hcut
      cases T with
      | true =>
        have hI : 0 ≤ I ∧ I < n := by simpa using hT'.out.symm
        obtain ⟨i, rfl⟩ : ∃ i : Nat, I = i := ⟨I.toNat, by omega⟩
        have hi : i < n := by omega
        have hi' : (i : Int) < n := by omega
        have hu : ∀ c, c < 8 → W1.cell? ⟨U, i * 8 + c, none⟩ = some (.bool ((v i).getLsbD c)) := fun c hc => row_cell hP1'.out.1.2.1 (upCells_at _ hi hc)
        have ub0 := hu 0 (by decide)
        have ub1 := hu 1 (by decide)
        have ub2 := hu 2 (by decide)
        have ub3 := hu 3 (by decide)
        have ub4 := hu 4 (by decide)
        have ub5 := hu 5 (by decide)
        have ub6 := hu 6 (by decide)
        have ub7 := hu 7 (by decide)
        rw [Nat.add_zero] at ub0
        have hUl : U < W1.heap.size := row_lt hP1'.out.1.2.1
        clear hI hu hT'
        go_wp2
        obtain ⟨Y, hY⟩ : ∃ Y, Y = W1.heap.size := ⟨_, rfl⟩
        rw [← hY]
        generalize hW2 : World.alloc _ _ = W2
        have hInn := Lib.hid (Inn.start (x := v i) (w2 := W2) (Y := Y) hP1'.out hXb'.out (by rw [← hW2]; rfl) hY.symm)
        clear hW2 ub0 ub1 ub2 ub3 ub4 ub5 ub6 ub7 hP1' hXb' d0 d1 d2 hXl hUl hY
        obtain ⟨x, hx⟩ : ∃ x, x = v i := ⟨_, rfl⟩
        rw [← hx] at hInn
        obtain ⟨y, hy⟩ : ∃ y, y = newB K x (low M) := ⟨_, rfl⟩
        have hx' := Lib.hid hx
        have hy' := Lib.hid hy
        clear hx hy
        go_loopw [12, 13, 14, 15, 16, 64] (fun nu al an _ _ c wr => ∃ j : Nat, j ≤ 8 ∧ c = .int .i64 j ∧ nu = .int .i64 ((x.toNat % 2 ^ j : Nat) : Int) ∧ al = .bool (allUp x (low M) j) ∧ an = .bool (anyUp x (low M) j) ∧ Inn w B b g U n X Y v (partF v i y j) K i M x wr) (fun _ _ _ _ _ c _ => 8 - (intOf c).toNat)
        case atStart =>
          refine ⟨0, by omega, rfl, ?_, rfl, rfl, ?_⟩
          · simp [Nat.mod_one]
          · rw [partF_zero]
            exact hInn.out
        case round =>
          clear hInn
          obtain ⟨j, hj, rfl, rfl, rfl, rfl, hIn⟩ := hrel
          obtain ⟨wq, hwq⟩ : ∃ wq : World, wq = wr := ⟨_, rfl⟩
          subst hwq
          obtain ⟨a0, a1, a2⟩ := hIn.acts
          have hIn' := Lib.hid hIn
          by_cases hj8 : j < 8
          · clear hIn a0 a1 a2
            go_upto_block 3 with fail
            go_cut [12, 13, 14, 15, 16] from 66 to 120 (fun nu al an _ _ wc => nu = .int .i64 ((x.toNat % 2 ^ (j + 1) : Nat) : Int) ∧ al = .bool (allUp x (low M) (j + 1)) ∧ an = .bool (anyUp x (low M) (j + 1)) ∧ Inn w B b g U n X Y v (partF v i y (j + 1)) K i M x wc)
            case first =>
              rename_i J L hJ hK
              cases hq : (low M).getLsbD j with
              | false => (refine wp_mono (turn_no L wq hIn'.out hi hj8 hx'.out hy'.out hKb rfl rfl rfl hq ?_) (fun e a' w' hq => by cases e <;> first | exact hq | exact hq.elim); intro u12 u13 u14 u15 u16 u66 u67 u68 u69 u70 u71 u72 u73 u74 u75 u76 u77 u78 u79 u80 u81 u82 u83 u84 u85 u86 u87 u88 u89 u90 u91 u92 u93 u94 u95 u96 u97 u98 u99 u100 u101 u102 u103 u104 u105 u106 u107 u108 u109 u110 u111 u112 u113 u114 u115 u116 u117 u118 u119 u120 wc h1 h2 h3 h4; exact hK _ _ (hJ _ _ ⟨u12, u13, u14, u15, u16, u66, u67, u68, u69, u70, u71, u72, u73, u74, u75, u76, u77, u78, u79, u80, u81, u82, u83, u84, u85, u86, u87, u88, u89, u90, u91, u92, u93, u94, u95, u96, u97, u98, u99, u100, u101, u102, u103, u104, u105, u106, u107, u108, u109, u110, u111, u112, u113, u114, u115, u116, u117, u118, u119, u120, ⟨h1, h2, h3, h4⟩, rfl⟩))
              | true =>
                have hK4 : K % 4 = 0 ∨ K % 4 = 1 ∨ 2 ≤ K % 4 := by omega
                rcases hK4 with hK4 | hK4 | hK4
                · (refine wp_mono (turn_set L wq hIn'.out hi hj8 hx'.out hy'.out hKb rfl rfl rfl hq hK4 ?_) (fun e a' w' hq => by cases e <;> first | exact hq | exact hq.elim); intro u12 u13 u14 u15 u16 u66 u67 u68 u69 u70 u71 u72 u73 u74 u75 u76 u77 u78 u79 u80 u81 u82 u83 u84 u85 u86 u87 u88 u89 u90 u91 u92 u93 u94 u95 u96 u97 u98 u99 u100 u101 u102 u103 u104 u105 u106 u107 u108 u109 u110 u111 u112 u113 u114 u115 u116 u117 u118 u119 u120 wc h1 h2 h3 h4; exact hK _ _ (hJ _ _ ⟨u12, u13, u14, u15, u16, u66, u67, u68, u69, u70, u71, u72, u73, u74, u75, u76, u77, u78, u79, u80, u81, u82, u83, u84, u85, u86, u87, u88, u89, u90, u91, u92, u93, u94, u95, u96, u97, u98, u99, u100, u101, u102, u103, u104, u105, u106, u107, u108, u109, u110, u111, u112, u113, u114, u115, u116, u117, u118, u119, u120, ⟨h1, h2, h3, h4⟩, rfl⟩))
                · (refine wp_mono (turn_clear L wq hIn'.out hi hj8 hx'.out hy'.out hKb rfl rfl rfl hq hK4 ?_) (fun e a' w' hq => by cases e <;> first | exact hq | exact hq.elim); intro u12 u13 u14 u15 u16 u66 u67 u68 u69 u70 u71 u72 u73 u74 u75 u76 u77 u78 u79 u80 u81 u82 u83 u84 u85 u86 u87 u88 u89 u90 u91 u92 u93 u94 u95 u96 u97 u98 u99 u100 u101 u102 u103 u104 u105 u106 u107 u108 u109 u110 u111 u112 u113 u114 u115 u116 u117 u118 u119 u120 wc h1 h2 h3 h4; exact hK _ _ (hJ _ _ ⟨u12, u13, u14, u15, u16, u66, u67, u68, u69, u70, u71, u72, u73, u74, u75, u76, u77, u78, u79, u80, u81, u82, u83, u84, u85, u86, u87, u88, u89, u90, u91, u92, u93, u94, u95, u96, u97, u98, u99, u100, u101, u102, u103, u104, u105, u106, u107, u108, u109, u110, u111, u112, u113, u114, u115, u116, u117, u118, u119, u120, ⟨h1, h2, h3, h4⟩, rfl⟩))
                · (refine wp_mono (turn_test L wq hIn'.out hi hj8 hx'.out hy'.out hKb rfl rfl rfl hq hK4 ?_) (fun e a' w' hq => by cases e <;> first | exact hq | exact hq.elim); intro u12 u13 u14 u15 u16 u66 u67 u68 u69 u70 u71 u72 u73 u74 u75 u76 u77 u78 u79 u80 u81 u82 u83 u84 u85 u86 u87 u88 u89 u90 u91 u92 u93 u94 u95 u96 u97 u98 u99 u100 u101 u102 u103 u104 u105 u106 u107 u108 u109 u110 u111 u112 u113 u114 u115 u116 u117 u118 u119 u120 wc h1 h2 h3 h4; exact hK _ _ (hJ _ _ ⟨u12, u13, u14, u15, u16, u66, u67, u68, u69, u70, u71, u72, u73, u74, u75, u76, u77, u78, u79, u80, u81, u82, u83, u84, u85, u86, u87, u88, u89, u90, u91, u92, u93, u94, u95, u96, u97, u98, u99, u100, u101, u102, u103, u104, u105, u106, u107, u108, u109, u110, u111, u112, u113, u114, u115, u116, u117, u118, u119, u120, ⟨h1, h2, h3, h4⟩, rfl⟩))
            case rest =>
              obtain ⟨rfl, rfl, rfl, hI2⟩ := hcut
              have hI3 := Lib.hid hI2
              clear hI2
              go_wp2
              go_roundw
              case rel => exact ⟨j + 1, by omega, by go_num, rfl, rfl, rfl, hI3.out⟩
              case measure => simp [intOf]; omega
          · obtain rfl : j = 8 := by omega
            clear hIn hj8
            rw [num_8]
            have hN := Lib.hid (show (v i).toNat = x.toNat by rw [hx'.out])
            have hK4 : K % 4 = 0 ∨ K % 4 = 1 ∨ K % 4 = 2 ∨ K % 4 = 3 := by omega
            rcases hK4 with hK4 | hK4 | hK4 | hK4
            · have hcall := set_yes hIn'.out.groups hi M
              rw [← hx'.out, show x ||| low M = y by rw [hy'.out]; unfold newB; rw [if_pos hK4]] at hcall
              unfold ChangeEnd at hcall
              rw [hN.out] at hcall
              have hcall' := Lib.hid hcall
              have hdone := Lib.hid (fun w3 => hIn'.out.done (w3 := w3))
              generalize x.toNat = N at hcall' ⊢
              generalize allUp x (low M) 8 = Al
              generalize anyUp x (low M) 8 = An
              clear hcall hIn' hx' hy' hN
              go_wp2_with fail
              refine hcall'.out.mono ?_
              rintro e w3 ⟨rfl, g1, g2⟩
              have hend := Lib.hid (hdone.out w3 g1 g2)
              clear g1 g2
              go_wp2
              go_roundw
              case rel => exact ⟨k + 1, _, by omega, by go_num, hend.out⟩
              case measure => simp [intOf]; omega
            · have hcall := clear_yes hIn'.out.groups hi M
              rw [← hx'.out, show x &&& ~~~ low M = y by rw [hy'.out]; unfold newB; rw [if_neg (by omega), if_pos hK4]] at hcall
              unfold ChangeEnd at hcall
              rw [hN.out] at hcall
              have hcall' := Lib.hid hcall
              have hdone := Lib.hid (fun w3 => hIn'.out.done (w3 := w3))
              generalize x.toNat = N at hcall' ⊢
              generalize allUp x (low M) 8 = Al
              generalize anyUp x (low M) 8 = An
              clear hcall hIn' hx' hy' hN
              go_wp2_with fail
              refine hcall'.out.mono ?_
              rintro e w3 ⟨rfl, g1, g2⟩
              have hend := Lib.hid (hdone.out w3 g1 g2)
              clear g1 g2
              go_wp2
              go_roundw
              case rel => exact ⟨k + 1, _, by omega, by go_num, hend.out⟩
              case measure => simp [intOf]; omega
            · have hcall := test_true hIn'.out.groups hi M
              have hv : v = upd v i y := by rw [hy'.out]; unfold newB; rw [if_neg (by omega), if_neg (by omega), hx'.out, upd_same]
              unfold TestEnd at hcall
              rw [← hx'.out] at hcall
              have hcall' := Lib.hid hcall
              have hdone := Lib.hid (fun w3 (g1 : GroupsAt w3 b g n v) => hIn'.out.done (w3 := w3) (hv ▸ g1))
              generalize x.toNat = N
              generalize allUp x (low M) 8 = Al at hcall' ⊢
              generalize anyUp x (low M) 8 = An
              clear hcall hIn' hx' hy' hN hv
              go_wp2_with fail
              refine hcall'.out.mono ?_
              rintro e w3 ⟨rfl, g1, g2⟩
              have hend := Lib.hid (hdone.out w3 g1 g2)
              clear g1 g2
              go_wp2
              go_roundw
              case rel => exact ⟨k + 1, _, by omega, by go_num, hend.out⟩
              case measure => simp [intOf]; omega
            · have hcall := test_false hIn'.out.groups hi M
              have hv : v = upd v i y := by rw [hy'.out]; unfold newB; rw [if_neg (by omega), if_neg (by omega), hx'.out, upd_same]
              unfold TestEnd at hcall
              rw [← hx'.out] at hcall
              have hcall' := Lib.hid hcall
              have hdone := Lib.hid (fun w3 (g1 : GroupsAt w3 b g n v) => hIn'.out.done (w3 := w3) (hv ▸ g1))
              generalize x.toNat = N
              generalize allUp x (low M) 8 = Al
              generalize anyUp x (low M) 8 = An at hcall' ⊢
              clear hcall hIn' hx' hy' hN hv
              go_wp2_with fail
              refine hcall'.out.mono ?_
              rintro e w3 ⟨rfl, g1, g2⟩
              have hend := Lib.hid (hdone.out w3 g1 g2)
              clear g1 g2
              go_wp2
              go_roundw
              case rel => exact ⟨k + 1, _, by omega, by go_num, hend.out⟩
              case measure => simp [intOf]; omega
      | false =>
        have hI : I < 0 ∨ (n : Int) ≤ I := by
          have : ¬ (0 ≤ I ∧ I < n) := by simpa using hT'.out.symm
          omega
        go_wp2
        obtain ⟨Y, hY⟩ : ∃ Y, Y = W1.heap.size := ⟨_, rfl⟩
        rw [← hY]
        generalize hW2 : World.alloc _ _ = W2
        have hInn := Lib.hid (Inn.start (x := 0#8) (w2 := W2) (Y := Y) hP1'.out hXb'.out (by rw [← hW2]; rfl) hY.symm)
        have hI' := Lib.hid hI
        clear hW2 hP1' hXb' d0 d1 d2 hXl hY hI hT'
        go_loopw [12, 13, 14, 15, 16, 64] (fun nu al an _ _ c wr => ∃ (j : Nat) (a : Bool), j ≤ 8 ∧ c = .int .i64 j ∧ nu = .int .i64 0 ∧ al = .bool a ∧ an = .bool false ∧ Inn w B b g U n X Y v (bitsOf v) K I M 0#8 wr) (fun _ _ _ _ _ c _ => 8 - (intOf c).toNat)
        case atStart => exact ⟨0, true, by omega, rfl, rfl, rfl, rfl, hInn.out⟩
        case round =>
          clear hInn
          obtain ⟨j, Al, hj, rfl, rfl, rfl, rfl, hIn⟩ := hrel
          obtain ⟨wq, hwq⟩ : ∃ wq : World, wq = wr := ⟨_, rfl⟩
          subst hwq
          obtain ⟨a0, a1, a2⟩ := hIn.acts
          have hIn' := Lib.hid hIn
          by_cases hj8 : j < 8
          · have hw := hIn.wasAt hj8
            rw [BitVec.getLsbD_zero] at hw
            generalize hq : (bits BinOp.and IntKind.i64 (M / 2 ^ j) 1 == 1) = q
            clear hIn
            cases q <;> cases Al
            all_goals
              go_wp2
              go_roundw
              case rel => exact ⟨j + 1, _, by omega, by go_num, rfl, rfl, rfl, hIn'.out⟩
              case measure => simp [intOf]; omega
          · obtain rfl : j = 8 := by omega
            have hnone := Lib.hid (fun w3 => hIn'.out.none (w3 := w3))
            have hK4 : K % 4 = 0 ∨ K % 4 = 1 ∨ K % 4 = 2 ∨ K % 4 = 3 := by omega
            rcases hK4 with hK4 | hK4 | hK4 | hK4
            · have hcall := Lib.hid (set_no hIn'.out.groups hI'.out M)
              clear hIn hIn' hI'
              go_wp2_with fail
              refine hcall.out.mono ?_
              rintro e w3 ⟨rfl, g2⟩
              have hend := Lib.hid (hnone.out w3 g2)
              clear g2
              go_wp2
              go_roundw
              case rel => exact ⟨k + 1, _, by omega, by go_num, hend.out⟩
              case measure => simp [intOf]; omega
            · have hcall := Lib.hid (clear_no hIn'.out.groups hI'.out M)
              clear hIn hIn' hI'
              go_wp2_with fail
              refine hcall.out.mono ?_
              rintro e w3 ⟨rfl, g2⟩
              have hend := Lib.hid (hnone.out w3 g2)
              clear g2
              go_wp2
              go_roundw
              case rel => exact ⟨k + 1, _, by omega, by go_num, hend.out⟩
              case measure => simp [intOf]; omega
            · have hcall := Lib.hid (test_no hIn'.out.groups hI'.out M true)
              clear hIn hIn' hI'
              go_wp2_with fail
              refine hcall.out.mono ?_
              rintro e w3 ⟨rfl, g2⟩
              have hend := Lib.hid (hnone.out w3 g2)
              clear g2
              go_wp2
              go_roundw
              case rel => exact ⟨k + 1, _, by omega, by go_num, hend.out⟩
              case measure => simp [intOf]; omega
            · have hcall := Lib.hid (test_no hIn'.out.groups hI'.out M false)
              clear hIn hIn' hI'
              go_wp2_with fail
              refine hcall.out.mono ?_
              rintro e w3 ⟨rfl, g2⟩
              have hend := Lib.hid (hnone.out w3 g2)
              clear g2
              go_wp2
              go_roundw
              case rel => exact ⟨k + 1, _, by omega, by go_num, hend.out⟩
              case measure => simp [intOf]; omega
    · obtain rfl : k = len := by omega
      have hl2 := Lib.hid (glen_any hP'.out.1.cell)
      have hG := Lib.hid hP'.out.1
      have hOnly := Lib.hid hO.out
      clear hP' hA' hO
      go_wp2_with fail
      refine (set_nil _ _ _).mono ?_
      rintro e w3 ⟨rfl, g1⟩
      have hO3 := Lib.hid (hOnly.out.trans g1 (fun _ _ h => h.elim))
      have hG3 := Lib.hid (hG.out.new g1)
      clear g1 hl2 hOnly hG
      go_wp2_with fail
      refine (test_nil _ _ _ _).mono ?_
      rintro e w4 ⟨rfl, g1⟩
      have hO4 := Lib.hid (hO3.out.trans g1 (fun _ _ h => h.elim))
      have hl4 := Lib.hid (glen_any (hG3.out.new g1).cell)
      clear g1 hO3 hG3
      go_wp2_with fail
      refine hl4.out.mono ?_
      rintro e w' ⟨rfl, hw⟩
      subst hw
      go_wp2_with fail
      refine (glen_nil _).mono ?_
      rintro e w' ⟨rfl, hw⟩
      subst hw
      go_wp2
      go_ret
      exact ⟨rfl, hO4.out.below (by have := hBw.out; omega) (fun _ h => by have := hBw.out; omega)⟩

theorem plays11 (zn : Int) (A : Option Addr) (len cap : Nat) (z : Nat → Nat → Value) (w : World) (_ : (Lit.int .i64 zn).wf = true) (hA : Acts w A len [.int .u8, .int .i64, .int .i64] z) :
    Calls Try.prog 3 #[.int .i64 zn, .slice A len cap] w fun e w' => e = .returned (.bool true) ∧ Below w.heap.size w w' := by
  by_cases hl : 150 < len
  · exact plays11_long zn A len cap w hl
  · exact plays11_any zn A len cap z w (by omega) hA
end Go.Proofs.Ytbmpmmfomcnchaa
