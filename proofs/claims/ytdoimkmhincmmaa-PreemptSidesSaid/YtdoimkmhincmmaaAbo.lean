/- reload.Above, and the reference's: who is above a task. -/
import Derived.Test.YtdoimkmhincmmaaAbh
namespace Go.Proofs.Ytdoimkmhincmmaa
namespace Rld
open Go Go.RowKit Rca

set_option maxRecDepth 100000 in
set_option maxHeartbeats 2000000 in
theorem above_any {w : World} {c : ConfV} {ts : List TaskV} (hT : TasksAt w c.ta ts) (hs9 : c.ta.n ≤ 1000000) {i : Nat} {ti : TaskV} (hi : ts[i]? = some ti) :
    Calls Try.prog 26 #[c.val, .int .i64 (i : Int)] w (RowEnd w (aboU ts ti.th c.ta.n)) := by
  obtain ⟨Z, hZ⟩ : ∃ Z, Z = RowEnd w (aboU ts ti.th c.ta.n) := ⟨_, rfl⟩
  rw [← hZ]
  have hZ' := Lib.hid hZ
  clear hZ
  have hO := (Only.refl (fun _ => False) w).alloc (.cells c.cells.toArray 27)
  have hB := heap_new_at w (.cells c.cells.toArray 27) rfl
  obtain ⟨W1, hW1⟩ : ∃ W1, W1 = w.alloc (.cells c.cells.toArray 27) := ⟨_, rfl⟩
  rw [← hW1] at hB hO
  have hB' := Lib.hid hB
  have hO' := Lib.hid hO
  have hT' := Lib.hid (hT.new hO)
  have hlen' := Lib.hid hT.len
  have hilt : i < c.ta.n := by rw [← hT.len]; exact (List.getElem?_eq_some_iff.1 hi).1
  have hbt : (hasT c.ta.n (i : Int)) = true := by unfold hasT; simp; omega
  have hq := Lib.hid (fun W => has_any W c (i : Int))
  rw [hbt] at hq
  obtain ⟨q, hqq⟩ : ∃ q, q = w.heap.size := ⟨_, rfl⟩
  have hqq' := Lib.hid hqq
  rw [← hqq] at hB'
  have hi' := Lib.hid hi
  clear hT hB hO hi hbt hqq
  rw [show c.val = .agg #[.int .i64 c.s, .int .i64 c.wy, .int .i64 c.h, .int .i64 c.mi, .slice c.mb.A c.mb.n c.mb.cap, .int .i64 c.g, .slice c.cn.A c.cn.n c.cn.cap, .slice c.ce.A c.ce.n c.ce.cap, .slice c.ta.A c.ta.n c.ta.cap, .slice c.li.A c.li.n c.li.cap] from rfl] at hq ⊢
  unfold ConfV.cells at hW1 hB'
  obtain ⟨s, wy, h, mi, ⟨mA, mn, mc⟩, g, ⟨cA, cn, cc⟩, ⟨eA, en, ec⟩, ⟨tA, n, tc⟩, ⟨lA, ln, lc⟩⟩ := c
  dsimp only at *
  have hW1' := Lib.hid hW1
  clear hW1
  have hilt' : (i : Int) < (n : Int) := by omega
  go_enter Try.func26, Try.ntmps26
  have e0 := row_cell hB'.out (i := 0) rfl
  have e1 := row_cell hB'.out (i := 1) rfl
  have e2 := row_cell hB'.out (i := 2) rfl
  have e3 := row_cell hB'.out (i := 3) rfl
  have e4 := row_cell hB'.out (i := 4) rfl
  have e5 := row_cell hB'.out (i := 5) rfl
  have e6 := row_cell hB'.out (i := 6) rfl
  have e7 := row_cell hB'.out (i := 7) rfl
  have e8 := row_cell hB'.out (i := 8) rfl
  have e9 := row_cell hB'.out (i := 9) rfl
  have hqlt := row_lt hB'.out
  go_wp2_with fail
  rw [← hqq'.out, ← hW1'.out]
  go_wp2_with fail
  refine (hq.out _).mono ?_
  rintro e W2 ⟨rfl, hOx⟩
  have hO2' := Lib.hid (hO'.out.trans' hOx)
  have hB2 := Lib.hid (hOx.heap hB'.out (fun h => h))
  have hT2 := Lib.hid (hT'.out.new hOx)
  clear e0 e1 e2 e3 e4 e5 e6 e7 e8 e9 hqlt hOx
  have e8 := row_cell hB2.out (i := 8) rfl
  have hqlt := row_lt hB2.out
  go_wp2
  clear e8 hqlt
  go_loopw [5, 15] (fun v i' wr => ∃ (k m : Nat) (p : Option Addr) (cp : Nat) (hh : Option Nat), k ≤ n ∧ m ≤ k ∧ i' = .int .i64 k ∧ v = .slice p m cp ∧ m = (aboU ts ti.th k).length ∧ Win wr 3 1 (.slice p m cp) hh m (dat (aboU ts ti.th k)) ∧ (∀ b, hh = some b → W2.heap.size ≤ b) ∧ Only (fun _ => False) W2 wr) (fun _ i' _ => n - (intOf i').toNat)
  case atStart => exact ⟨0, 0, none, 0, none, Nat.zero_le _, Nat.le_refl _, rfl, rfl, rfl, Win.nil _ _ _, (fun b hb => by cases hb), Only.refl _ _⟩
  case round =>
    obtain ⟨k, m, p, cp, hh, hk, hmk, rfl, rfl, hml, hW, hf, hO⟩ := hrel
    obtain ⟨ws, hws⟩ : ∃ ws : World, ws = wr := ⟨_, rfl⟩
    subst hws
    have hW' := Lib.hid hW
    have hf' := Lib.hid hf
    have hO' := Lib.hid hO
    have hml' := Lib.hid hml
    have hbs := Lib.hid (hO.heap hB2.out (fun h => h))
    have e8 := row_cell hbs.out (i := 8) rfl
    have hqlt := row_lt hbs.out
    clear hW hf hO hml
    by_cases hkn : k < n
    · have hkn' : (k : Int) < (n : Int) := by omega
      obtain ⟨t, ht⟩ : ∃ t, ts[k]? = some t := ⟨_, List.getElem?_eq_getElem (by have := hlen'.out; omega)⟩
      obtain ⟨b, off, hA, hb, hC⟩ := (hT2.out.new hO'.out).at_ k t ht
      obtain ⟨b2, off2, hA2, hb2, hC2⟩ := (hT2.out.new hO'.out).at_ i ti hi'.out
      rw [hA] at hA2
      cases hA2
      simp only at hA
      subst hA
      have htp := prio_at ht
      have hsu := Lib.hid (aboU_succ ts ti.th k)
      rw [htp] at hsu
      obtain ⟨c0, c1, c2, c3, c4, c5, c6⟩ := hC
      have d1 := hC2.c1
      obtain ⟨T, hT⟩ : ∃ T, T = ti.th := ⟨_, rfl⟩
      rw [← hT] at hsu d1 hW' hml'
      clear hC2 ht htp
      obtain ⟨tp, tth, tpe, tde, tfr, tfl, ⟨oA, on, oc⟩⟩ := t
      simp only at *
      have hOa := Lib.hid ((Only.refl (fun _ => False) ws).alloc (.cells #[.int .i64 tp, .int .i64 tth, .int .i64 tpe, .int .i64 tde, .int .i64 tfr, .int .i64 tfl, .slice oA on oc] 38))
      have hWa := Lib.hid (hW'.out.kept hOa.out (fun _ _ h => h))
      by_cases hlt : T < tp
      · rw [if_pos hlt] at hsu
        go_wp2
        go_quiet (fail)
        go_wp2_with (at_builtin; (refine wpList_append_win rfl _ _ 24 rfl 3 (Value.int .i64 0) 1 8 Try.underlying24 info3 rfl (by decide) rfl ((hWa.out.same (by first | rfl | exact drewN_heap _ _)).kept ((Only.refl (fun _ => False) _).alloc _) (fun _ _ h => h)) _ 1 1 rfl [.int .i64 (k : Int)] rfl (fun _ => ⟨_, rfl, row_one (heap_new_at _ _ (by simp [World.drewN]))⟩) (by simp [Value.oneCell']) (by unfold maxLen; omega) (by omega) ?_; intro v4 w6 h4 hW4 hO4' hh4; obtain ⟨p4, c4', rfl, _, _⟩ := hW4.out.form))
        go_roundw
        case rel =>
          refine ⟨k + 1, m + 1, p4, c4', h4, by omega, by omega, by go_num, rfl, ?_, ?_, fun x hx => ?_, ?_⟩
          · rw [← hT, hsu.out, List.length_append, ← hml'.out]; rfl
          · rw [← hT, hsu.out]
            have := hW4.out
            rw [show [Value.int .i64 (k : Int)] = dat [k] from rfl, dat_append] at this
            exact this
          · rcases hh4.out with rfl | ⟨g5, hg5, hge5⟩
            · exact hf'.out x hx
            · rw [hg5] at hx
              cases hx
              have h7 := hO'.out.size
              simp [World.drewN] at hge5
              omega
          · exact (((hO'.out.trans' hOa.out).drewN _).alloc _).trans hO4'.out (fun x hx e => by
              have h7 := hf'.out x e.symm
              omega)
        case measure => simp [intOf]; omega
      · rw [if_neg hlt, List.append_nil] at hsu
        go_wp2
        go_quiet (fail)
        go_wp2
        go_roundw
        case rel =>
          refine ⟨k + 1, m, p, cp, hh, by omega, by omega, by go_num, rfl, by rw [← hT, hsu.out]; exact hml'.out, ?_, hf'.out, (hO'.out.trans' hOa.out).drewN _⟩
          rw [← hT, hsu.out]
          exact hWa.out.same (by first | rfl | exact drewN_heap _ _)
        case measure => simp [intOf]; omega
    · obtain rfl : k = n := by omega
      have hkn' : ¬ (k : Int) < (k : Int) := by omega
      have hfin : Z (.returned (.slice p m cp)) ws := by
        rw [hZ'.out]
        have h7 := hW'.out
        have h8 := hml'.out
        subst h8
        exact ⟨p, cp, hh, rfl, h7, fun b hb => Nat.le_trans hO2'.out.size (hf'.out b hb), hO2'.out.trans' hO'.out⟩
      have hfin' := Lib.hid hfin
      clear hfin
      go_wp2
      exact hfin'.out

set_option maxRecDepth 100000 in
set_option maxHeartbeats 2000000 in
theorem rabove_any {w : World} {c : ConfV} {ts : List TaskV} (hT : TasksAt w c.ta ts) (hs9 : c.ta.n ≤ 1000000) {i : Nat} {ti : TaskV} (hi : ts[i]? = some ti) :
    Calls Try.prog 36 #[c.val, .int .i64 (i : Int)] w (RowEnd w (aboU ts ti.th c.ta.n)) := by
  obtain ⟨Z, hZ⟩ : ∃ Z, Z = RowEnd w (aboU ts ti.th c.ta.n) := ⟨_, rfl⟩
  rw [← hZ]
  have hZ' := Lib.hid hZ
  clear hZ
  have hO := (Only.refl (fun _ => False) w).alloc (.cells c.cells.toArray 27)
  have hB := heap_new_at w (.cells c.cells.toArray 27) rfl
  obtain ⟨W1, hW1⟩ : ∃ W1, W1 = w.alloc (.cells c.cells.toArray 27) := ⟨_, rfl⟩
  rw [← hW1] at hB hO
  have hB' := Lib.hid hB
  have hO' := Lib.hid hO
  have hT' := Lib.hid (hT.new hO)
  have hlen' := Lib.hid hT.len
  have hilt : i < c.ta.n := by rw [← hT.len]; exact (List.getElem?_eq_some_iff.1 hi).1
  have hbt : (hasT c.ta.n (i : Int)) = true := by unfold hasT; simp; omega
  have hq := Lib.hid (fun W => has_any W c (i : Int))
  rw [hbt] at hq
  obtain ⟨q, hqq⟩ : ∃ q, q = w.heap.size := ⟨_, rfl⟩
  have hqq' := Lib.hid hqq
  rw [← hqq] at hB'
  have hi' := Lib.hid hi
  clear hT hB hO hi hbt hqq
  rw [show c.val = .agg #[.int .i64 c.s, .int .i64 c.wy, .int .i64 c.h, .int .i64 c.mi, .slice c.mb.A c.mb.n c.mb.cap, .int .i64 c.g, .slice c.cn.A c.cn.n c.cn.cap, .slice c.ce.A c.ce.n c.ce.cap, .slice c.ta.A c.ta.n c.ta.cap, .slice c.li.A c.li.n c.li.cap] from rfl] at hq ⊢
  unfold ConfV.cells at hW1 hB'
  obtain ⟨s, wy, h, mi, ⟨mA, mn, mc⟩, g, ⟨cA, cn, cc⟩, ⟨eA, en, ec⟩, ⟨tA, n, tc⟩, ⟨lA, ln, lc⟩⟩ := c
  dsimp only at *
  have hW1' := Lib.hid hW1
  clear hW1
  have hilt' : (i : Int) < (n : Int) := by omega
  go_enter Try.func36, Try.ntmps36
  obtain ⟨W2, hW2⟩ : ∃ W2, W2 = W1 := ⟨_, rfl⟩
  have hO2' := Lib.hid hO'.out
  have hB2 := Lib.hid hB'.out
  have hT2 := Lib.hid hT'.out
  rw [← hW2] at hO2' hB2 hT2
  have hW2' := Lib.hid hW2
  clear hW2
  have e8 := row_cell hB2.out (i := 8) rfl
  have hqlt := row_lt hB2.out
  go_wp2
  rw [← hqq'.out, ← hW1'.out, ← hW2'.out]
  go_wp2
  clear e8 hqlt
  go_loopw [5, 11] (fun v i' wr => ∃ (k m : Nat) (p : Option Addr) (cp : Nat) (hh : Option Nat), k ≤ n ∧ m ≤ k ∧ i' = .int .i64 k ∧ v = .slice p m cp ∧ m = (aboU ts ti.th k).length ∧ Win wr 3 1 (.slice p m cp) hh m (dat (aboU ts ti.th k)) ∧ (∀ b, hh = some b → W2.heap.size ≤ b) ∧ Only (fun _ => False) W2 wr) (fun _ i' _ => n - (intOf i').toNat)
  case atStart => exact ⟨0, 0, none, 0, none, Nat.zero_le _, Nat.le_refl _, rfl, rfl, rfl, Win.nil _ _ _, (fun b hb => by cases hb), Only.refl _ _⟩
  case round =>
    obtain ⟨k, m, p, cp, hh, hk, hmk, rfl, rfl, hml, hW, hf, hO⟩ := hrel
    obtain ⟨ws, hws⟩ : ∃ ws : World, ws = wr := ⟨_, rfl⟩
    subst hws
    have hW' := Lib.hid hW
    have hf' := Lib.hid hf
    have hO' := Lib.hid hO
    have hml' := Lib.hid hml
    have hbs := Lib.hid (hO.heap hB2.out (fun h => h))
    have e8 := row_cell hbs.out (i := 8) rfl
    have hqlt := row_lt hbs.out
    clear hW hf hO hml
    by_cases hkn : k < n
    · have hkn' : (k : Int) < (n : Int) := by omega
      obtain ⟨t, ht⟩ : ∃ t, ts[k]? = some t := ⟨_, List.getElem?_eq_getElem (by have := hlen'.out; omega)⟩
      obtain ⟨b, off, hA, hb, hC⟩ := (hT2.out.new hO'.out).at_ k t ht
      obtain ⟨b2, off2, hA2, hb2, hC2⟩ := (hT2.out.new hO'.out).at_ i ti hi'.out
      rw [hA] at hA2
      cases hA2
      simp only at hA
      subst hA
      have htp := prio_at ht
      have hsu := Lib.hid (aboU_succ ts ti.th k)
      rw [htp] at hsu
      obtain ⟨c0, c1, c2, c3, c4, c5, c6⟩ := hC
      have d1 := hC2.c1
      obtain ⟨T, hT⟩ : ∃ T, T = ti.th := ⟨_, rfl⟩
      rw [← hT] at hsu d1 hW' hml'
      clear hC2 ht htp
      obtain ⟨tp, tth, tpe, tde, tfr, tfl, ⟨oA, on, oc⟩⟩ := t
      simp only at *
      have hOa := Lib.hid ((Only.refl (fun _ => False) ws).alloc (.cells #[.int .i64 tp, .int .i64 tth, .int .i64 tpe, .int .i64 tde, .int .i64 tfr, .int .i64 tfl, .slice oA on oc] 38))
      have hWa := Lib.hid (hW'.out.kept hOa.out (fun _ _ h => h))
      by_cases hlt : T < tp
      · rw [if_pos hlt] at hsu
        go_wp2
        go_quiet (fail)
        go_wp2_with (at_builtin; (refine wpList_append_win rfl _ _ 24 rfl 3 (Value.int .i64 0) 1 8 Try.underlying24 info3 rfl (by decide) rfl ((hWa.out.same (by first | rfl | exact drewN_heap _ _)).kept ((Only.refl (fun _ => False) _).alloc _) (fun _ _ h => h)) _ 1 1 rfl [.int .i64 (k : Int)] rfl (fun _ => ⟨_, rfl, row_one (heap_new_at _ _ (by simp [World.drewN]))⟩) (by simp [Value.oneCell']) (by unfold maxLen; omega) (by omega) ?_; intro v4 w6 h4 hW4 hO4' hh4; obtain ⟨p4, c4', rfl, _, _⟩ := hW4.out.form))
        go_roundw
        case rel =>
          refine ⟨k + 1, m + 1, p4, c4', h4, by omega, by omega, by go_num, rfl, ?_, ?_, fun x hx => ?_, ?_⟩
          · rw [← hT, hsu.out, List.length_append, ← hml'.out]; rfl
          · rw [← hT, hsu.out]
            have := hW4.out
            rw [show [Value.int .i64 (k : Int)] = dat [k] from rfl, dat_append] at this
            exact this
          · rcases hh4.out with rfl | ⟨g5, hg5, hge5⟩
            · exact hf'.out x hx
            · rw [hg5] at hx
              cases hx
              have h7 := hO'.out.size
              simp [World.drewN] at hge5
              omega
          · exact (((hO'.out.trans' hOa.out).drewN _).alloc _).trans hO4'.out (fun x hx e => by
              have h7 := hf'.out x e.symm
              omega)
        case measure => simp [intOf]; omega
      · rw [if_neg hlt, List.append_nil] at hsu
        go_wp2
        go_quiet (fail)
        go_wp2
        go_roundw
        case rel =>
          refine ⟨k + 1, m, p, cp, hh, by omega, by omega, by go_num, rfl, by rw [← hT, hsu.out]; exact hml'.out, ?_, hf'.out, (hO'.out.trans' hOa.out).drewN _⟩
          rw [← hT, hsu.out]
          exact hWa.out.same (by first | rfl | exact drewN_heap _ _)
        case measure => simp [intOf]; omega
    · obtain rfl : k = n := by omega
      have hkn' : ¬ (k : Int) < (k : Int) := by omega
      have hfin : Z (.returned (.slice p m cp)) ws := by
        rw [hZ'.out]
        have h7 := hW'.out
        have h8 := hml'.out
        subst h8
        exact ⟨p, cp, hh, rfl, h7, fun b hb => Nat.le_trans hO2'.out.size (hf'.out b hb), hO2'.out.trans' hO'.out⟩
      have hfin' := Lib.hid hfin
      clear hfin
      go_wp2
      exact hfin'.out

/-- Of no task: nothing. -/
theorem above_none {w : World} {c : ConfV} {z : Int} (hz : hasT c.ta.n z = false) : Calls Try.prog 26 #[c.val, .int .i64 z] w (fun e w' => e = .returned (.slice none 0 0) ∧ Only (fun _ => False) w w') := by
  have hO := (Only.refl (fun _ => False) w).alloc (.cells c.cells.toArray 27)
  have hB := heap_new_at w (.cells c.cells.toArray 27) rfl
  obtain ⟨W1, hW1⟩ : ∃ W1, W1 = w.alloc (.cells c.cells.toArray 27) := ⟨_, rfl⟩
  rw [← hW1] at hB hO
  have hO' := Lib.hid hO
  have hq := Lib.hid (fun W => has_any W c z)
  rw [hz] at hq
  have e0 := row_cell hB (i := 0) rfl
  have e1 := row_cell hB (i := 1) rfl
  have e2 := row_cell hB (i := 2) rfl
  have e3 := row_cell hB (i := 3) rfl
  have e4 := row_cell hB (i := 4) rfl
  have e5 := row_cell hB (i := 5) rfl
  have e6 := row_cell hB (i := 6) rfl
  have e7 := row_cell hB (i := 7) rfl
  have e8 := row_cell hB (i := 8) rfl
  have e9 := row_cell hB (i := 9) rfl
  have hqlt := row_lt hB
  clear hB hO hz
  rw [show c.val = .agg #[.int .i64 c.s, .int .i64 c.wy, .int .i64 c.h, .int .i64 c.mi, .slice c.mb.A c.mb.n c.mb.cap, .int .i64 c.g, .slice c.cn.A c.cn.n c.cn.cap, .slice c.ce.A c.ce.n c.ce.cap, .slice c.ta.A c.ta.n c.ta.cap, .slice c.li.A c.li.n c.li.cap] from rfl] at hq ⊢
  unfold ConfV.cells at hW1
  obtain ⟨s, wy, h, mi, ⟨mA, mn, mc⟩, g, ⟨cA, cn, cc⟩, ⟨eA, en, ec⟩, ⟨tA, n, tc⟩, ⟨lA, ln, lc⟩⟩ := c
  dsimp only at *
  have hW1' := Lib.hid hW1
  clear hW1
  go_enter Try.func26, Try.ntmps26
  go_wp2_with fail
  rw [← hW1'.out]
  go_wp2_with fail
  refine (hq.out _).mono ?_
  rintro e W2 ⟨rfl, hOx⟩
  have hO2' := Lib.hid (hO'.out.trans' hOx)
  clear hOx
  go_wp2
  go_ret
  exact ⟨rfl, hO2'.out⟩
end Rld
end Go.Proofs.Ytdoimkmhincmmaa
