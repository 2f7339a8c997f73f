/- FramesPlay's walk. -/
import Derived.Test.YteniphdfhmbbeaaPlays15a
import Derived.Deep.CutBlock
namespace Go.Proofs.Yteniphdfhmbbeaa
open Go Go.RowKit

theorem depth_nil (w : World) : Calls Try.prog 11 #[.pointer none] w fun e w' => e = .returned (.int .i64 0) ∧ Only (fun _ => False) w w' :=
  depth_of (f := zfr) (t := false) (top_nil _) (by decide) (by decide)
theorem all_none (w : World) : Calls Try.prog 9 #[.pointer none] w fun e w' => e = .returned (.slice none 0 0) ∧ w = w' := by
  go_enter Try.func9, Try.ntmps9
  go_wp2
  go_ret
  exact ⟨rfl, rfl⟩

set_option maxRecDepth 100000 in
theorem plays15_long (A : Option Addr) (len cap : Nat) (w : World) (hl : 200 < len) :
    Calls Try.prog 3 #[.slice A len cap] w fun e w' => e = .returned (.bool true) ∧ Below w.heap.size w w' := by
  go_enter Try.func3, Try.ntmps3
  go_wp2_with (go_at_call 5; refine (fixed15_any _).mono ?_; rintro e w1 ⟨rfl, hb1⟩; have hb1' := Lib.hid hb1; clear hb1)
  go_ret
  exact ⟨rfl, hb1'.out⟩

set_option maxRecDepth 100000 in
set_option maxHeartbeats 8000000 in
theorem plays15_any (A : Option Addr) (len cap : Nat) (z : Nat → Nat → Value) (w : World) (hl : len ≤ 200) (hA : Acts w A len [.bool, .int .i64, .int .i64] z) :
    Calls Try.prog 3 #[.slice A len cap] w fun e w' => e = .returned (.bool true) ∧ Below w.heap.size w w' := by
  have hA' := Lib.hid hA
  clear hA
  obtain ⟨B, hB⟩ : ∃ B, B = w.heap.size := ⟨_, rfl⟩
  rw [← hB]
  have hBw := Lib.hid hB
  go_enter Try.func3, Try.ntmps3
  go_wp2_with (go_at_call 5; refine (fixed15_any _).mono ?_; rintro e w1 ⟨rfl, hb1⟩; have hb1' := Lib.hid hb1; clear hb1)
  refine (snew_any w1).mono ?_
  rintro e w2 ⟨rfl, h2⟩
  have hO1 : Only (fun x => B ≤ x) w w1 := Only.of_new hb1'.out _
  have hR := F2.start (Rung.first ⟨rfl, h2⟩ hO1 (by have := hb1'.out.size; omega))
  obtain ⟨b, hb⟩ : ∃ b, b = w1.heap.size := ⟨_, rfl⟩
  rw [← hb] at hR ⊢
  have hR' := Lib.hid hR
  clear h2 hO1 hb hb1' hR hB
  go_wp2
  go_loopw [4, 5, 6, 31] (fun v d p i wr => ∃ (k : Nat) (pk : Int) (fs : List Fr), k ≤ len ∧ i = .int .i64 k ∧ d = .int .i64 (deep fs) ∧ p = .int .i64 pk ∧ F2 w B b pk fs fs v wr ∧ fs.length ≤ k) (fun _ _ _ i _ => len - (intOf i).toNat)
  case atStart => exact ⟨0, 0, [], Nat.zero_le _, rfl, rfl, rfl, hR'.out, Nat.le_refl _⟩
  case round =>
    clear hR'
    obtain ⟨k, pk, fs, hk, rfl, rfl, rfl, hR, hfk⟩ := hrel
    obtain ⟨ws, hws⟩ : ∃ ws : World, ws = wr := ⟨_, rfl⟩
    subst hws
    have hO := Lib.hid hR.only
    have hR' := Lib.hid hR
    clear hR
    by_cases hlt : k < len
    · obtain ⟨ba, off, rfl, hba, hc⟩ := (hA'.out.only hO.out (fun _ h => by have := hBw.out; omega)) k hlt
      obtain ⟨c0, e0⟩ := hc 0 .bool rfl
      obtain ⟨c1, e1⟩ := hc 1 (.int .i64) rfl
      obtain ⟨c2, e2⟩ := hc 2 (.int .i64) rfl
      obtain ⟨P, e0⟩ := e0
      obtain ⟨I, e1, hI⟩ := e1
      obtain ⟨S, e2, hS⟩ := e2
      rw [e0] at c0
      rw [e1] at c1
      rw [e2] at c2
      change ws.cell? ⟨ba, off + k * 3, none⟩ = _ at c0
      change ws.cell? ⟨ba, off + k * 3 + 1, none⟩ = _ at c1
      change ws.cell? ⟨ba, off + k * 3 + 2, none⟩ = _ at c2
      clear hc hI hS e0 e1 e2
      go_upto_region 11 with fail
      obtain ⟨X, hX⟩ : ∃ X, X = ws.heap.size := ⟨_, rfl⟩
      obtain ⟨W1, hW1⟩ : ∃ W1, W1 = ws.alloc (.cells #[.bool P, .int .i64 I, .int .i64 S] 28) := ⟨_, rfl⟩
      have hXc : W1.heap[X]? = some (.cells [.bool P, .int .i64 I, .int .i64 S].toArray 28 (0, 0)) := by rw [hW1]; exact heap_new_at _ _ hX.symm
      have hP1 := hR'.out.new ((Only.refl _ ws).alloc (.cells #[.bool P, .int .i64 I, .int .i64 S] 28))
      rw [← hW1] at hP1
      rw [← hX, ← hW1]
      have d0 := row_cell hXc (i := 0) rfl
      have d1 := row_cell hXc (i := 1) rfl
      have d2 := row_cell hXc (i := 2) rfl
      have hXl := row_lt hXc
      have hBX : B ≤ W1.heap.size := by
        have := hO.out.size
        have := hBw.out
        omega
      have hP1' := Lib.hid hP1
      have hXc' := Lib.hid hXc
      clear hW1 hX hP1 c0 c1 c2 hba hR' hO ws hXc
      go_upto_if 36 with fail
      go_cut [4, 5, 6, 9, 10, 11] from 35 to 115 (fun v d p _ _ _ wc => ∃ (pk : Int) (fs : List Fr), d = .int .i64 (deep fs) ∧ p = .int .i64 pk ∧ F2 w B b pk fs fs v wc ∧ fs.length ≤ k + 1)
      case first =>
        cases P with
        | true =>
          rcases List.eq_nil_or_concat fs with rfl | ⟨gs, x, rfl⟩
          · -- [N
            obtain ⟨h, hw⟩ := hP1'.out.win
            obtain ⟨p, cp, rfl, -⟩ := hw.form
            have q1 := Lib.hid (hP1'.out.popNone I)
            clear hw hP1'
            go_wp2_with (go_at_call 7; refine q1.out.mono ?_; rintro e W2 ⟨rfl, hP2⟩; have hP2' := Lib.hid hP2; clear hP2)
            go_meet
            case rel =>
              exact ⟨pk, [], rfl, rfl, hP2'.out, by simp⟩
            -- N]
          · -- [P
            rw [List.concat_eq_append] at hP1' hfk ⊢
            obtain ⟨h, hw⟩ := hP1'.out.win
            obtain ⟨L, hL⟩ : ∃ L, L = (gs ++ [x]).length := ⟨_, rfl⟩
            have hLn : L = gs.length + 1 := by rw [hL]; simp
            rw [← hL] at hw hfk
            obtain ⟨g, off', cp, ho, rfl, h5, h6, h7, h8, h9⟩ := win_fr hw (by omega)
            obtain ⟨a0, a1, a2⟩ := h8 gs.length x (by simp)
            obtain ⟨n, hn⟩ : ∃ n, n = gs.length := ⟨_, rfl⟩
            rw [← hn] at a0 a1 a2 hLn
            have hst := hP1'.out.stand
            have hbase : x.base = deep gs := by
              have := (stand_append.1 hst).2.1
              omega
            have hL0 : ((L : Int) == 0) = false := by simp; omega
            have hL1 : (L : Int) - 1 = (n : Int) := by omega
            have hcn : (n : Int) ≤ (cp : Int) := by omega
            have hn1 : (n : Int) < (L : Int) := by omega
            have hn3 : n ≤ 1000 := by omega
            have hE := Lib.hid (And.intro hn (And.intro hLn hbase))
            clear hw h8 h9 ho hst hn hLn hL h6 hbase
            by_cases hwho : x.who = I
            · have hne : (x.who != I) = false := by simp [hwho]
              have q1 := hP1'.out.less (hE.out.1 ▸ hE.out.2.1)
              rw [← hE.out.1] at q1
              have q2 := Lib.hid (fun W (hW : Only (fun _ => False) W1 W) => (F2.pop (q1.new hW) (by have := hE.out.1; omega) (who := I) hwho.symm))
              have hmeet := Lib.hid (show Value.int .i64 x.base = .int .i64 (deep gs) by rw [hE.out.2.2])
              clear hP1' hwho q1
              go_wp2_with fail
              go_region
              all_goals
                go_wp2_with (go_at_call 7; refine (q2.out _ (Only.refl _ _).drew).mono ?_; rintro e W2 ⟨rfl, hP2⟩; have hP2' := Lib.hid hP2; clear hP2)
                go_meet
                case rel => exact ⟨pk, gs, hmeet.out, rfl, hP2'.out, by have := hE.out; omega⟩
            · have hne : (x.who != I) = true := by simpa using hwho
              have q2 := Lib.hid (fun W (hW : Only (fun _ => False) W1 W) => (F2.popOther (hP1'.out.new hW) (by have := hE.out.1; omega) (who := I) hwho))
              clear hP1' hwho
              go_wp2_with fail
              go_region
              all_goals
                go_wp2_with (go_at_call 7; refine (q2.out _ (Only.refl _ _).drew).mono ?_; rintro e W2 ⟨rfl, hP2⟩; have hP2' := Lib.hid hP2; clear hP2)
                go_meet
                case rel => exact ⟨pk, gs ++ [x], rfl, rfl, hP2'.out, by simp; have := hE.out; omega⟩
            -- P]
        | false =>
          obtain ⟨h, hw⟩ := hP1'.out.win
          obtain ⟨n, hn⟩ : ∃ n, n = fs.length := ⟨_, rfl⟩
          rw [← hn] at hw
          obtain ⟨p, cp, rfl, -⟩ := hw.form
          have hbd := stand_bound hP1'.out.stand
          by_cases hr : S < 0 ∨ 4096 < S
          · -- [R
            have q1 := Lib.hid (push_range ⟨b, 0, none⟩ I hr W1)
            clear hw hbd hn
            by_cases h0 : S < 0
            · clear hr
              go_wp2_with (go_at_call 8; refine q1.out.mono ?_; rintro e W2 ⟨rfl, hw⟩; subst hw)
              go_meet
              case rel => exact ⟨pk, fs, rfl, rfl, hP1'.out, by omega⟩
            · have h1 : 4096 < S := by omega
              clear hr
              go_wp2_with (go_at_call 8; refine q1.out.mono ?_; rintro e W2 ⟨rfl, hw⟩; subst hw)
              go_meet
              case rel => exact ⟨pk, fs, rfl, rfl, hP1'.out, by omega⟩
            -- R]
          · -- [O
            have h0 : ¬ S < 0 := by omega
            have h1 : ¬ 4096 < S := by omega
            have q1 := Lib.hid (hP1'.out.push hBX (by omega) I (size := S) (by omega) (by omega) hXc'.out)
            obtain ⟨d, hd⟩ : ∃ d, d = deep fs := ⟨_, rfl⟩
            rw [← hd] at q1 hbd ⊢
            have hwr : IntKind.i64.wrap (d + S) = d + S := IntWalk.i64_in _ (by omega)
            have hn' := Lib.hid (show n ≤ 255 by omega)
            have hE := Lib.hid (And.intro hn hd)
            have hsz := Lib.hid (show ∀ W2, F2 w B b (max pk (d + S)) (fs ++ [⟨I, d, S⟩]) fs (.slice p n cp) W2 → B ≤ W2.heap.size from fun W2 h => by have := h.only.size; have := hBw.out; omega)
            clear hw hr hP1' hXc' d0 hn hd hbd
            clear hBX
            go_wp2_with (first | (go_at_call 8; clear d1 d2 hXl; refine q1.out.mono ?_; rintro e W2 ⟨rfl, hP2, hX2⟩; have d1 := row_cell (L := [_, _, _]) hX2 (i := 1) rfl; have d2 := row_cell (L := [_, _, _]) hX2 (i := 2) rfl; have hXl := row_lt hX2; obtain ⟨o2, h2, hq, hw2⟩ := hP2.parts (hsz.out _ hP2); have hq' := Lib.hid hq; have hw2' := Lib.hid (hE.out.1 ▸ hw2 : Win W2 31 3 (.slice p n cp) h2 n (frCells fs)); have hX2' := Lib.hid (hw2.typed hX2 (by decide)); clear hX2 hP2 hq hw2) | (at_builtin; refine wpList_append_win rfl _ _ 26 rfl 31 zfr.val 3 24 Try.underlying26 info31 rfl (by decide) rfl (hw2'.out.kept ((Only.refl (fun _ => False) W2).alloc (.cells #[.int .i64 I, .int .i64 d, .int .i64 S] 31)) (fun _ _ h => h)) (some ⟨W2.heap.size, 0, none⟩) 1 1 rfl (Fr.cells ⟨I, d, S⟩) rfl (fun _ => ⟨_, rfl, row_all (heap_new_at _ _ rfl)⟩) (frOne _) (by have := hn'.out; unfold maxLen; omega) (by have := hn'.out; omega) ?_; intro v4 w4 h4 hW4 hO4 hh4; have d2' := hO4.out.cell (p := ⟨X, 2, none⟩) (((Only.refl (fun _ => False) W2).alloc _).cell d2 (fun h => h)) hX2'.out))
            all_goals
              rename_i hle
              have hF := Lib.hid (hq'.out.grow (x := ⟨I, d, S⟩) ((Only.refl (fun _ => False) W2).alloc _) hE.out.1 hW4.out hO4.out hh4.out)
              go_meet
              case rel =>
                refine ⟨max pk (d + S), fs ++ [⟨I, d, S⟩], by rw [deep_append, deep_one, ← hE.out.2], ?_, hF.out, by simp; omega⟩
                rw [Int.max_def]
                split <;> first | rfl | (congr 1; omega)
            -- O]
      · -- [T
        obtain ⟨pk', fs', rfl, rfl, hF, hfk'⟩ := hcut
        obtain ⟨W0, hW0⟩ : ∃ W0 : World, W0 = wc := ⟨_, rfl⟩
        subst hW0
        obtain ⟨h, hw⟩ := hF.win
        obtain ⟨n, hn⟩ : ∃ n, n = fs'.length := ⟨_, rfl⟩
        rw [← hn] at hw
        obtain ⟨p, cp, rfl, -⟩ := hw.form
        obtain ⟨f, t, hft, hcase⟩ := hF.topOf (by omega)
        have q1 := Lib.hid (hF.rung.all (by omega))
        have q2 := Lib.hid hft
        have hF' := Lib.hid hF
        have hc' := Lib.hid hcase
        have hn' := Lib.hid (And.intro hn (show n ≤ 201 by omega))
        have hw' := Lib.hid hw
        have hbd := Lib.hid (stand_bound hF.stand)
        obtain ⟨d, hd⟩ : ∃ d, d = deep fs' := ⟨_, rfl⟩
        rw [← hd] at hbd ⊢
        have hd' := Lib.hid hd
        clear hF hcase hft hw hn hP1' hXc' d0 d1 d2 hXl hBX hd
        go_upto_region 32 with (first | (go_at_call 9; refine q1.out.mono ?_; rintro e W2 ⟨v2, h2, rfl, hw2, -, ho2⟩; rw [← hn'.out.1] at hw2; obtain ⟨p2, c2, rfl, -⟩ := hw2.form; have q3 := Lib.hid (q2.out _ ho2); have ho2' := Lib.hid ho2; have hw2' := Lib.hid hw2; clear hw2 ho2) | (go_at_call 10; refine q3.out.mono ?_; rintro e W3 ⟨rfl, ho3⟩; have ho3' := Lib.hid ho3; clear ho3; unfold Fr.val))
        obtain ⟨T, hT⟩ : ∃ T, T = W3.heap.size := ⟨_, rfl⟩
        obtain ⟨W4, hW4⟩ : ∃ W4, W4 = W3.alloc (.cells #[.int .i64 f.who, .int .i64 f.base, .int .i64 f.size] 31) := ⟨_, rfl⟩
        have hTc : W4.heap[T]? = some (.cells f.cells.toArray 31 (0, 0)) := by rw [hW4]; exact heap_new_at _ _ hT.symm
        have ho4 : Only (fun _ => False) W0 W4 := by rw [hW4]; exact (ho2'.out.trans' ho3'.out).alloc _
        have ho42 : Only (fun _ => False) W2 W4 := by rw [hW4]; exact ho3'.out.alloc _
        rw [← hT, ← hW4]
        have hF4 := Lib.hid (hF'.out.new ho4)
        have hw4 := Lib.hid (hw'.out.kept ho4 (fun _ _ h => h))
        have hv4 := Lib.hid (hw2'.out.kept ho42 (fun _ _ h => h))
        have hT4 := Lib.hid hTc
        clear q1 q2 q3 hF' hw' hw2' ho2' ho3' hT hW4 hTc ho4 ho42
        go_cut [159] from 123 to 159 (fun v wc => v = .bool false ∧ Only (fun _ => False) W4 wc)
        case first =>
          have hex := wd_ex W4
          have qd := Lib.hid (fun x : Wd W4 => Calls.wd (x := x) ((hF4.out.new x.ok).rung.depth (by have := hn'.out; omega)))
          have qp := Lib.hid (fun x : Wd W4 => Calls.wd_same (x := x) ((hF4.out.new x.ok).rung.peak))
          rw [← hd'.out] at qd
          rcases hc'.out with ⟨hc1, hc2⟩ | ⟨r, hc1, hc2⟩
          · subst hc2
            have hn0 : n = 0 := by rw [hn'.out.1, hc1]; rfl
            subst hn0
            clear hc1
            refine wp_region_wd (by kernel_rfl) (by kernel_rfl) ?_
            repeat (go_big_quiet_step (first | (go_at_call 11; exact qd.out _) | (go_at_call 12; exact qp.out _)))
            refine wpQuiet_nil ?_
            rintro _ ⟨x, rfl⟩
            have hx := Lib.hid x.ok
            clear hex
            go_wp2_with fail
            go_meet
            case rel => exact ⟨rfl, hx.out⟩
          · subst hc2
            obtain ⟨m, hm⟩ : ∃ m, m = r.length := ⟨_, rfl⟩
            have hnm : n = m + 1 := by rw [hn'.out.1, hc1, hm]; simp
            obtain ⟨g, off', cp', _, hv, _, _, hgl, hcl, _⟩ := win_fr hw4.out (by omega)
            cases hv
            obtain ⟨a0, a1, a2⟩ := hcl m f (by rw [hc1, hm]; simp)
            have b0 := wd_cell a0
            have b1 := wd_cell a1
            have b2 := wd_cell a2
            have t0 := wd_cell (row_cell hT4.out (i := 0) rfl)
            have t1 := wd_cell (row_cell hT4.out (i := 1) rfl)
            have t2 := wd_cell (row_cell hT4.out (i := 2) rfl)
            have hn1 : (n : Int) - 1 = (m : Int) := by omega
            have hmn : (m : Int) < (n : Int) := by omega
            have hn0 : decide ((0 : Int) < (n : Int)) = true := by simp; omega
            have hn00 : decide (0 < n) = true := by simp; omega
            have hn3 : n ≤ 201 := hn'.out.2
            clear hcl a0 a1 a2 hc1 hm hnm
            refine wp_region_wd (by kernel_rfl) (by kernel_rfl) ?_
            repeat (go_big_quiet_step (first | (go_at_call 11; exact qd.out _) | (go_at_call 12; exact qp.out _)))
            refine wpQuiet_nil ?_
            rintro _ ⟨x, rfl⟩
            have hx := Lib.hid x.ok
            clear hex
            go_wp2_with fail
            go_meet
            case rel => exact ⟨rfl, hx.out⟩
        obtain ⟨rfl, ho5⟩ := hcut
        obtain ⟨W5, hW5⟩ : ∃ W5 : World, W5 = wc := ⟨_, rfl⟩
        subst hW5
        have hF5 := Lib.hid (hF4.out.new ho5)
        have hw5 := Lib.hid (hw4.out.kept ho5 (fun _ _ h => h))
        have hv5 := Lib.hid (hv4.out.kept ho5 (fun _ _ h => h))
        have hst := Lib.hid hF5.out.stand
        clear hF4 hw4 hv4 hT4 ho5 hc'
        go_wp2
        go_loopw [15, 16, 17, 162] (fun e _ _ i wr => ∃ j : Nat, j ≤ n ∧ i = .int .i64 j ∧ e = .int .i64 (deep (fs'.take j)) ∧ Only (fun _ => False) W5 wr) (fun _ _ _ i _ => n - (intOf i).toNat)
        case atStart => exact ⟨0, Nat.zero_le _, rfl, rfl, Only.refl _ _⟩
        case round =>
          obtain ⟨j, hj, rfl, rfl, ho6⟩ := hrel
          obtain ⟨ws, hws⟩ : ∃ ws : World, ws = wr := ⟨_, rfl⟩
          subst hws
          have hn2 := hn'.out.2
          by_cases hjn : j < n
          · have hnl := hn'.out.1
            obtain ⟨x, hx⟩ : ∃ x, fs'[j]? = some x := ⟨_, List.getElem?_eq_getElem (by omega)⟩
            have hsplit : fs' = fs'.take j ++ x :: fs'.drop (j + 1) := by
              obtain ⟨h1, h2⟩ := List.getElem?_eq_some_iff.1 hx
              rw [← h2, ← List.drop_eq_getElem_cons h1, List.take_append_drop]
            have htk : fs'.take (j + 1) = fs'.take j ++ [x] := by rw [List.take_add_one, hx]; rfl
            have hsx := hst.out
            rw [hsplit] at hsx
            obtain ⟨s1, s2, s3, -⟩ := stand_append.1 hsx
            have hbj := stand_bound s1
            rw [List.length_take, Nat.min_eq_left (by omega)] at hbj
            obtain ⟨dj, hdj⟩ : ∃ dj, dj = deep (fs'.take j) := ⟨_, rfl⟩
            have hE := Lib.hid (show Value.int .i64 (dj + x.size) = .int .i64 (deep (fs'.take (j + 1))) by rw [htk, deep_append, deep_one, hdj])
            rw [← hdj] at hbj s2 ⊢
            rw [Int.zero_add] at s2
            have hwr : IntKind.i64.wrap (dj + x.size) = dj + x.size := IntWalk.i64_in _ (by omega)
            obtain ⟨g, off1, cp1, _, hv1, _, _, hg1, hc1, _⟩ := win_fr (hw5.out.kept ho6 (fun _ _ h => h)) (by omega)
            obtain ⟨g2, off2, cp2, _, hv2, _, _, hg2, hc2, _⟩ := win_fr (hv5.out.kept ho6 (fun _ _ h => h)) (by omega)
            cases hv1
            cases hv2
            obtain ⟨a0, a1, a2⟩ := hc1 j x hx
            obtain ⟨e0, e1, e2⟩ := hc2 j x hx
            rw [s2] at a1 e1
            have hjn' : (j : Int) < (n : Int) := by omega
            have ho6' := Lib.hid ho6
            clear hx hsplit htk hsx s1 s3 hbj hc1 hc2 s2 hdj ho6 hnl
            obtain ⟨xw, hxw⟩ : ∃ xw, xw = x.who := ⟨_, rfl⟩
            obtain ⟨xs, hxs⟩ : ∃ xs, xs = x.size := ⟨_, rfl⟩
            rw [← hxw] at a0 e0
            rw [← hxs] at a2 e2 hwr hE
            clear hxw hxs
            go_upto_region 38 with fail
            have z0 := (((Only.refl (fun _ => False) ws).alloc (.cells #[.int .i64 xw, .int .i64 dj, .int .i64 xs] 31)))
            obtain ⟨T2, hT2⟩ : ∃ T2, T2 = ws.heap.size := ⟨_, rfl⟩
            obtain ⟨W6, hW6⟩ : ∃ W6, W6 = ws.alloc (.cells #[.int .i64 xw, .int .i64 dj, .int .i64 xs] 31) := ⟨_, rfl⟩
            have hTc : W6.heap[T2]? = some (.cells [.int .i64 xw, .int .i64 dj, .int .i64 xs].toArray 31 (0, 0)) := by rw [hW6]; exact heap_new_at _ _ hT2.symm
            rw [← hW6] at z0
            rw [← hT2, ← hW6]
            have b0 := wd_cell (z0.cell a0 (fun h => h))
            have b1 := wd_cell (z0.cell a1 (fun h => h))
            have b2 := wd_cell (z0.cell a2 (fun h => h))
            have t0 := wd_cell (row_cell hTc (i := 0) rfl)
            have t1 := wd_cell (row_cell hTc (i := 1) rfl)
            have t2 := wd_cell (row_cell hTc (i := 2) rfl)
            have hex := wd_ex W6
            have hz := Lib.hid (ho6'.out.trans' z0)
            have hTl := row_lt hTc
            clear hT2 hW6 hTc z0 a0 a1 a2 e0 e1 e2 hg1 hg2 ho6'
            refine wp_region_wd (by kernel_rfl) (by kernel_rfl) ?_
            repeat (go_big_quiet_step (fail))
            refine wpQuiet_nil ?_
            rintro _ ⟨y, rfl⟩
            have hy := Lib.hid (hz.out.trans' y.ok)
            have t1' := t1 y
            have t2' := t2 y
            clear hex b0 b1 b2 t0 t1 t2
            go_wp2
            go_roundw
            case rel => exact ⟨j + 1, by omega, by go_num, hE.out, hy.out⟩
            case measure => simp [intOf]; omega
          · obtain rfl : j = n := by omega
            have hF6 := Lib.hid (hF5.out.new ho6)
            have hkl := hlt
            clear ho6
            go_wp2
            go_roundw
            case rel => exact ⟨k + 1, pk', fs', by omega, by go_num, by rw [hd'.out], rfl, hF6.out, hfk'⟩
            case measure => simp [intOf]; omega
        -- T]
    · -- [E
      have hO' := hO
      clear hR' hA' hO
      go_wp2_with fail
      refine (push_nil _ _ _).mono ?_
      rintro e w' ⟨rfl, hw⟩
      subst hw
      go_wp2_with fail
      refine (top_nil _).mono ?_
      rintro e W2 ⟨rfl, h2⟩
      unfold Fr.val zfr
      have hO2 := Lib.hid ((hO'.out.trans h2 (fun _ _ h => h.elim)).alloc (.cells #[.int .i64 0, .int .i64 0, .int .i64 0] 31))
      clear hO' h2
      go_wp2_with fail
      refine (pop_none (top_nil _) _).mono ?_
      rintro e W3 ⟨rfl, h3⟩
      have hO3 := Lib.hid (hO2.out.trans h3 (fun _ _ h => h.elim))
      clear hO2 h3
      go_wp2_with fail
      refine (depth_nil _).mono ?_
      rintro e W4 ⟨rfl, h4⟩
      have hO4 := Lib.hid (hO3.out.trans h4 (fun _ _ h => h.elim))
      clear hO3 h4
      go_wp2_with fail
      refine (peak_nil _).mono ?_
      rintro e w' ⟨rfl, hw⟩
      subst hw
      go_wp2_with fail
      refine (all_none _).mono ?_
      rintro e w' ⟨rfl, hw⟩
      subst hw
      go_wp2
      go_ret
      exact ⟨rfl, hO4.out.below (Nat.le_of_eq hBw.out) (fun k h => h)⟩
      -- E]

theorem plays15 (A : Option Addr) (len cap : Nat) (z : Nat → Nat → Value) (w : World) (hA : Acts w A len [.bool, .int .i64, .int .i64] z) :
    Calls Try.prog 3 #[.slice A len cap] w fun e w' => e = .returned (.bool true) ∧ Below w.heap.size w w' := by
  by_cases hl : 200 < len
  · exact plays15_long A len cap w hl
  · exact plays15_any A len cap z w (by omega) hA
end Go.Proofs.Yteniphdfhmbbeaa
