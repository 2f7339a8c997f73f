/- ConfChecks' walk. -/
import Derived.Test.YtbjpnjgkpkfngaaGreatDoorGF
import Derived.Test.YtbjpnjgkpkfngaaGreatDoorConf10
import Derived.Test.YtbjpnjgkpkfngaaGreatDoorH16
namespace Go.Proofs.YtbjpnjgkpkfngaaGreatDoor
open Go Go.RowKit

/-- The argument in a block of its own. -/
structure BoxC (w : World) (A : Nat) (c : ConfV) (W1 : World) : Prop where
  only : Only (fun _ => False) w W1
  cells : ∀ W, Only (fun _ => False) W1 W → W.cell? ⟨A, 0, none⟩ = some (.int .i64 c.s) ∧ W.cell? ⟨A, 1, none⟩ = some (.int .i64 c.wy) ∧ W.cell? ⟨A, 2, none⟩ = some (.int .i64 c.h) ∧ W.cell? ⟨A, 3, none⟩ = some (.int .i64 c.mi) ∧ W.cell? ⟨A, 4, none⟩ = some (.slice c.mb.A c.mb.n c.mb.cap) ∧ W.cell? ⟨A, 5, none⟩ = some (.int .i64 c.g) ∧ W.cell? ⟨A, 6, none⟩ = some (.slice c.cn.A c.cn.n c.cn.cap) ∧ W.cell? ⟨A, 7, none⟩ = some (.slice c.ce.A c.ce.n c.ce.cap) ∧ W.cell? ⟨A, 8, none⟩ = some (.slice c.ta.A c.ta.n c.ta.cap) ∧ W.cell? ⟨A, 9, none⟩ = some (.slice c.li.A c.li.n c.li.cap)
theorem boxc_of {w : World} (c : ConfV) : BoxC w w.heap.size c (w.alloc (.cells c.cells.toArray 27)) :=
  ⟨(Only.refl _ w).alloc _, fun W ho => by
    have a := ho.heap (heap_new_at w (.cells c.cells.toArray 27) rfl) (fun h => h)
    exact ⟨row_cell a (i := 0) rfl, row_cell a (i := 1) rfl, row_cell a (i := 2) rfl, row_cell a (i := 3) rfl, row_cell a (i := 4) rfl, row_cell a (i := 5) rfl, row_cell a (i := 6) rfl, row_cell a (i := 7) rfl, row_cell a (i := 8) rfl, row_cell a (i := 9) rfl⟩⟩
/-- Both orders, in memory. -/
def Ords (w3 : World) (p : Nat → Int) (n : Nat) (x y : Value) (W : World) : Prop :=
  ∃ (g : Nat) (B : Option Addr) (cap : Nat) (h : Option Nat), x = .slice (some ⟨g, 0, none⟩) n n ∧ y = .slice B n cap ∧ RowAt W g (orderUp p n) ∧ Win W 3 1 (.slice B n cap) h n (dat (orderUp p n)) ∧ Only (fun _ => False) w3 W

set_option maxRecDepth 100000 in
set_option maxHeartbeats 8000000 in
theorem checks_any {w : World} (hb : Bas w) (h3 : 3 ≤ w.heap.size) {c : ConfV} {d : ConfL} {pl : Tks} (hc : ConfIn w c d pl) : Calls Tryz.prog 3 #[c.val] w (GrowB true w) := by
  rw [show c.val = .agg #[.int .i64 c.s, .int .i64 c.wy, .int .i64 c.h, .int .i64 c.mi, .slice c.mb.A c.mb.n c.mb.cap, .int .i64 c.g, .slice c.cn.A c.cn.n c.cn.cap, .slice c.ce.A c.ce.n c.ce.cap, .slice c.ta.A c.ta.n c.ta.cap, .slice c.li.A c.li.n c.li.cap] from rfl]
  obtain ⟨A, hA⟩ : ∃ A, A = w.heap.size := ⟨_, rfl⟩
  obtain ⟨W1, hW1⟩ : ∃ W1, W1 = w.alloc (.cells c.cells.toArray 27) := ⟨_, rfl⟩
  have hbox := Lib.hid (show BoxC w A c W1 by rw [hA, hW1]; exact boxc_of c)
  have qf := Lib.hid (fixed_any (hb.new hbox.out.only) (Nat.le_trans h3 hbox.out.only.size))
  have q1 := Lib.hid (fun W (ho : Only (fun _ => False) W1 W) => (hc.new (hbox.out.only.trans' ho)).few)
  obtain ⟨F1, hF1⟩ : ∃ F, F = fewB c pl.ts := ⟨_, rfl⟩
  rw [← hF1] at q1
  have hF1' := Lib.hid hF1
  have hc' := Lib.hid hc
  have hb' := Lib.hid hb
  unfold ConfV.cells at hW1
  clear hF1 hc hb h3
  go_enter Tryz.func3, Tryz.ntmps3
  go_wp2_with fail
  rw [← hA, ← hW1]
  clear hW1 hA
  refine qf.out.mono ?_
  rintro r w2 ⟨rfl, hO2⟩
  obtain ⟨a0, a1, a2, a3, a4, a5, a6, a7, a8, a9⟩ := hbox.out.cells w2 hO2
  have hO2' := Lib.hid hO2
  clear hO2 qf
  go_wp2_with fail
  refine (q1.out _ hO2'.out).mono ?_
  rintro r w3 ⟨rfl, hO3⟩
  have hO3' := Lib.hid (hO2'.out.trans' hO3)
  clear hO3 a0 a1 a2 a3 a4 a5 a6 a7 a8 a9 hO2' q1
  cases F1 with
  | false =>
    go_wp2
    go_ret
    exact ⟨rfl, hbox.out.only.trans' hO3'.out⟩
  | true =>
    obtain ⟨a0, a1, a2, a3, a4, a5, a6, a7, a8, a9⟩ := hbox.out.cells w3 hO3'.out
    by_cases g1 : 1000 < c.g
    · go_wp2
      go_ret
      exact ⟨rfl, hbox.out.only.trans' hO3'.out⟩
    · by_cases g2 : c.g < -1000
      · go_wp2
        go_ret
        exact ⟨rfl, hbox.out.only.trans' hO3'.out⟩
      · have hsm := (hc'.out.small hF1'.out.symm).2.2.2.1
        have cA := (hc'.out.new (hbox.out.only.trans' hO3'.out)).conf hF1'.out.symm
        have hb4 := Lib.hid (hb'.out.new (hbox.out.only.trans' hO3'.out))
        have hcl := Lib.hid (fun W (ho : Only (fun _ => False) w3 W) => hbox.out.cells W (hO3'.out.trans' ho))
        have hOw := Lib.hid (hbox.out.only.trans' hO3'.out)
        obtain ⟨z, hz⟩ : ∃ z, z = confZ c d pl := ⟨_, rfl⟩
        obtain ⟨p, hp⟩ : ∃ p, p = prio pl.ts := ⟨_, rfl⟩
        have k1b := Lib.hid (show ∀ W, Only (fun _ => False) w3 W → Calls Tryz.prog 11 #[.agg #[.int .i64 c.s, .int .i64 c.wy, .int .i64 c.h, .int .i64 c.mi, .slice c.mb.A c.mb.n c.mb.cap, .int .i64 c.g, .slice c.cn.A c.cn.n c.cn.cap, .slice c.ce.A c.ce.n c.ce.cap, .slice c.ta.A c.ta.n c.ta.cap, .slice c.li.A c.li.n c.li.cap]] W fun r w' => r = .returned (.int .i64 z) ∧ Only (fun _ => False) W w' from fun W ho => (confCheck_any (hb4.out.words.new ho) (cA.new ho)).mono fun r w' ⟨h1, h2⟩ => ⟨by rw [h1, hz], h2⟩)
        have k2b := Lib.hid (show ∀ W, Only (fun _ => False) w3 W → Calls Tryz.prog 12 #[.agg #[.int .i64 c.s, .int .i64 c.wy, .int .i64 c.h, .int .i64 c.mi, .slice c.mb.A c.mb.n c.mb.cap, .int .i64 c.g, .slice c.cn.A c.cn.n c.cn.cap, .slice c.ce.A c.ce.n c.ce.cap, .slice c.ta.A c.ta.n c.ta.cap, .slice c.li.A c.li.n c.li.cap]] W fun r w' => r = .returned (.int .i64 z) ∧ Only (fun _ => False) W w' from fun W ho => (rconfCheck_any (cA.new ho)).mono fun r w' ⟨h1, h2⟩ => ⟨by rw [h1, hz], h2⟩)
        have k3 := Lib.hid (show ∀ W, Only (fun _ => False) w3 W → Calls Tryz.prog 8 #[.agg #[.int .i64 c.s, .int .i64 c.wy, .int .i64 c.h, .int .i64 c.mi, .slice c.mb.A c.mb.n c.mb.cap, .int .i64 c.g, .slice c.cn.A c.cn.n c.cn.cap, .slice c.ce.A c.ce.n c.ce.cap, .slice c.ta.A c.ta.n c.ta.cap, .slice c.li.A c.li.n c.li.cap]] W (OrdEnd W p c.ta.n) from fun W ho => hp ▸ order_any (c := c) (cA.t.new ho) hsm)
        have k4 := Lib.hid (show ∀ W, Only (fun _ => False) w3 W → Calls Tryz.prog 9 #[.agg #[.int .i64 c.s, .int .i64 c.wy, .int .i64 c.h, .int .i64 c.mi, .slice c.mb.A c.mb.n c.mb.cap, .int .i64 c.g, .slice c.cn.A c.cn.n c.cn.cap, .slice c.ce.A c.ce.n c.ce.cap, .slice c.ta.A c.ta.n c.ta.cap, .slice c.li.A c.li.n c.li.cap]] W (ROrdEnd W p c.ta.n) from fun W ho => hp ▸ rorder_any (c := c) (cA.t.new ho) hsm)
        have k5 := Lib.hid (show ∀ W, Only (fun _ => False) w3 W → Calls Tryz.prog 10 #[.agg #[.int .i64 c.s, .int .i64 c.wy, .int .i64 c.h, .int .i64 c.mi, .slice c.mb.A c.mb.n c.mb.cap, .int .i64 c.g, .slice c.cn.A c.cn.n c.cn.cap, .slice c.ce.A c.ce.n c.ce.cap, .slice c.ta.A c.ta.n c.ta.cap, .slice c.li.A c.li.n c.li.cap]] W fun r w' => r = .returned (.agg #[.int .i64 c.mb.n, .int .i64 c.g, .int .i64 c.cn.n, .int .i64 c.ce.n]) ∧ Only (fun _ => False) W w' from fun W ho => (room_any c W).mono fun r w' ⟨h1, h2⟩ => ⟨h1, h2⟩)
        have zz : (z == z) = true := by simp
        clear cA hz hc' hF1' hO3' hbox hb' hp hb4
        go_upto_region 5 with fail
        go_cut [3, 4] from 22 to 25 (fun x y wc => Ords w3 p c.ta.n x y wc)
        case first =>
          go_region_held3 (fun w' => w'.cell? ⟨A, 0, none⟩ = some (.int .i64 c.s) ∧ w'.cell? ⟨A, 1, none⟩ = some (.int .i64 c.wy) ∧ w'.cell? ⟨A, 2, none⟩ = some (.int .i64 c.h) ∧ w'.cell? ⟨A, 3, none⟩ = some (.int .i64 c.mi) ∧ w'.cell? ⟨A, 4, none⟩ = some (.slice c.mb.A c.mb.n c.mb.cap) ∧ w'.cell? ⟨A, 5, none⟩ = some (.int .i64 c.g) ∧ w'.cell? ⟨A, 6, none⟩ = some (.slice c.cn.A c.cn.n c.cn.cap) ∧ w'.cell? ⟨A, 7, none⟩ = some (.slice c.ce.A c.ce.n c.ce.cap) ∧ w'.cell? ⟨A, 8, none⟩ = some (.slice c.ta.A c.ta.n c.ta.cap) ∧ w'.cell? ⟨A, 9, none⟩ = some (.slice c.li.A c.li.n c.li.cap))
            (exact hcl.out _ (by repeat (first | assumption | exact Only.refl _ _ | apply Only.drew)))
            (first
              | (go_at_call 8; refine (k3.out _ (by repeat (first | assumption | exact Only.refl _ _ | apply Only.drew))).mono ?_; rintro _ w6 ⟨g, rfl, _, hr6, hO6⟩; have hS6 : Only (fun _ => False) w3 w6 := (Only.trans' (by repeat (first | assumption | exact Only.refl _ _ | apply Only.drew)) hO6); have hA6 := Lib.hid (And.intro hr6 hO6); clear hr6 hO6)
              | (go_at_call 9; refine (k4.out _ (by repeat (first | assumption | exact Only.refl _ _ | apply Only.drew))).mono ?_; rintro _ w7 ⟨B, cap, h, rfl, hW7, _, hO7⟩; have hS7 : Only (fun _ => False) w3 w7 := (Only.trans' (by repeat (first | assumption | exact Only.refl _ _ | apply Only.drew)) hO7); have hB7 := Lib.hid (And.intro hW7 hO7); clear hW7 hO7))
          all_goals
            have hS6' := Lib.hid hS6
            have hS7' := Lib.hid hS7
            clear hS6 hS7
            go_wp2
            go_meet
            case rel => exact ⟨g, B, cap, h, rfl, rfl, (by first | exact hA6.out.1 | exact hB7.out.2.heap hA6.out.1 (fun h => h)), (by first | exact hB7.out.1 | exact hB7.out.1.kept hA6.out.2 (fun _ _ h => h)), (by first | exact hS7'.out | exact hS6'.out)⟩
        case rest =>
          obtain ⟨g, B, cap, h, rfl, rfl, hrow, hwin, hOn⟩ := hcut
          have hinv := Lib.hid (show RowAt wc g (orderUp p c.ta.n) ∧ Win wc 3 1 (.slice B c.ta.n cap) h c.ta.n (dat (orderUp p c.ta.n)) ∧ Only (fun _ => False) w3 wc from ⟨hrow, hwin, hOn⟩)
          clear hrow hwin hOn a0 a1 a2 a3 a4 a5 a6 a7 a8 a9
          go_wp2
          go_loopw [5, 33] (fun _ i wr => ∃ k : Nat, k ≤ c.ta.n ∧ i = .int .i64 k ∧ RowAt wr g (orderUp p c.ta.n) ∧ Win wr 3 1 (.slice B c.ta.n cap) h c.ta.n (dat (orderUp p c.ta.n)) ∧ Only (fun _ => False) w3 wr) (fun _ i _ => c.ta.n - (intOf i).toNat)
          case atStart => exact ⟨0, Nat.zero_le _, rfl, hinv.out⟩
          case round =>
            clear hinv
            obtain ⟨k, hk, rfl, hrow, hwin, hOn⟩ := hrel
            obtain ⟨ws, hws⟩ : ∃ ws : World, ws = wr := ⟨_, rfl⟩
            subst hws
            by_cases hkn : k < c.ta.n
            · have hinv := Lib.hid (show RowAt ws g (orderUp p c.ta.n) ∧ Win ws 3 1 (.slice B c.ta.n cap) h c.ta.n (dat (orderUp p c.ta.n)) ∧ Only (fun _ => False) w3 ws from ⟨hrow, hwin, hOn⟩)
              obtain ⟨x, hx⟩ : ∃ x, (orderUp p c.ta.n)[k]? = some x := ⟨_, List.getElem?_eq_getElem (by rw [order_length]; exact hkn)⟩
              have r0 := hrow.cell hx
              obtain ⟨gb, off, cap', hh, hv, hnc, hcm, hlt, hcell, hfr⟩ := hwin.at_ (by omega)
              have r1 := hcell k _ (dat_at hx)
              cases hv
              have hkn' : (k : Int) < c.ta.n := by omega
              clear hrow hwin hOn hcell hfr hh hx hlt
              go_upto_region 11 with fail
              go_quiet (fail)
              go_wp2
              go_roundw
              case rel => exact ⟨k + 1, by omega, by go_num, hinv.out.1, hinv.out.2.1.kept ((Only.refl (fun _ => False) ws).drewN _) (fun _ _ h => h), hinv.out.2.2.drewN _⟩
              case measure => simp [intOf]; omega
            · obtain rfl : k = c.ta.n := by omega
              obtain ⟨a0, a1, a2, a3, a4, a5, a6, a7, a8, a9⟩ := hcl.out ws hOn
              have hOn' := Lib.hid hOn
              clear hrow hwin hOn
              go_wp2_with fail
              refine (k5.out _ hOn'.out).mono ?_
              rintro r w5 ⟨rfl, hO5⟩
              have hO5' := Lib.hid (hOn'.out.trans' hO5)
              clear hO5 a0 a1 a2 a3 a4 a5 a6 a7 a8 a9
              obtain ⟨R, hR⟩ : ∃ R, R = w5.heap.size := ⟨_, rfl⟩
              obtain ⟨W6, hW6⟩ : ∃ W6, W6 = w5.alloc (.cells #[.int .i64 c.mb.n, .int .i64 c.g, .int .i64 c.cn.n, .int .i64 c.ce.n] 32) := ⟨_, rfl⟩
              have hR6 := Lib.hid (show W6.heap[R]? = some (.cells #[.int .i64 c.mb.n, .int .i64 c.g, .int .i64 c.cn.n, .int .i64 c.ce.n] 32 (0, 0)) by rw [hW6]; exact heap_new_at _ _ hR.symm)
              have hO6 := Lib.hid (show Only (fun _ => False) w3 W6 by rw [hW6]; exact hO5'.out.alloc _)
              have hboth := Lib.hid (show ∀ W, Only (fun _ => False) W6 W → W.cell? ⟨A, 0, none⟩ = some (.int .i64 c.s) ∧ W.cell? ⟨A, 1, none⟩ = some (.int .i64 c.wy) ∧ W.cell? ⟨A, 2, none⟩ = some (.int .i64 c.h) ∧ W.cell? ⟨A, 3, none⟩ = some (.int .i64 c.mi) ∧ W.cell? ⟨A, 4, none⟩ = some (.slice c.mb.A c.mb.n c.mb.cap) ∧ W.cell? ⟨A, 5, none⟩ = some (.int .i64 c.g) ∧ W.cell? ⟨A, 6, none⟩ = some (.slice c.cn.A c.cn.n c.cn.cap) ∧ W.cell? ⟨A, 7, none⟩ = some (.slice c.ce.A c.ce.n c.ce.cap) ∧ W.cell? ⟨A, 8, none⟩ = some (.slice c.ta.A c.ta.n c.ta.cap) ∧ W.cell? ⟨A, 9, none⟩ = some (.slice c.li.A c.li.n c.li.cap) ∧ W.cell? ⟨R, 0, none⟩ = some (.int .i64 c.mb.n) ∧ W.cell? ⟨R, 1, none⟩ = some (.int .i64 c.g) ∧ W.cell? ⟨R, 2, none⟩ = some (.int .i64 c.cn.n) ∧ W.cell? ⟨R, 3, none⟩ = some (.int .i64 c.ce.n) from fun W ho => by
                have a := ho.heap hR6.out (fun h => h)
                obtain ⟨b0, b1, b2, b3, b4, b5, b6, b7, b8, b9⟩ := hcl.out W (hO6.out.trans' ho)
                exact ⟨b0, b1, b2, b3, b4, b5, b6, b7, b8, b9, row_cell (L := [.int .i64 c.mb.n, .int .i64 c.g, .int .i64 c.cn.n, .int .i64 c.ce.n]) a (i := 0) rfl, row_cell (L := [.int .i64 c.mb.n, .int .i64 c.g, .int .i64 c.cn.n, .int .i64 c.ce.n]) a (i := 1) rfl, row_cell (L := [.int .i64 c.mb.n, .int .i64 c.g, .int .i64 c.cn.n, .int .i64 c.ce.n]) a (i := 2) rfl, row_cell (L := [.int .i64 c.mb.n, .int .i64 c.g, .int .i64 c.cn.n, .int .i64 c.ce.n]) a (i := 3) rfl⟩)
              have j1 := Lib.hid (show ∀ W, Only (fun _ => False) W6 W → Calls Tryz.prog 11 #[.agg #[.int .i64 c.s, .int .i64 c.wy, .int .i64 c.h, .int .i64 c.mi, .slice c.mb.A c.mb.n c.mb.cap, .int .i64 c.g, .slice c.cn.A c.cn.n c.cn.cap, .slice c.ce.A c.ce.n c.ce.cap, .slice c.ta.A c.ta.n c.ta.cap, .slice c.li.A c.li.n c.li.cap]] W fun r w' => r = .returned (.int .i64 z) ∧ Only (fun _ => False) W6 w' from fun W ho => (k1b.out W (hO6.out.trans' ho)).mono fun r w' ⟨h1, h2⟩ => ⟨h1, ho.trans' h2⟩)
              have j2 := Lib.hid (show ∀ W, Only (fun _ => False) W6 W → Calls Tryz.prog 12 #[.agg #[.int .i64 c.s, .int .i64 c.wy, .int .i64 c.h, .int .i64 c.mi, .slice c.mb.A c.mb.n c.mb.cap, .int .i64 c.g, .slice c.cn.A c.cn.n c.cn.cap, .slice c.ce.A c.ce.n c.ce.cap, .slice c.ta.A c.ta.n c.ta.cap, .slice c.li.A c.li.n c.li.cap]] W fun r w' => r = .returned (.int .i64 z) ∧ Only (fun _ => False) W6 w' from fun W ho => (k2b.out W (hO6.out.trans' ho)).mono fun r w' ⟨h1, h2⟩ => ⟨h1, ho.trans' h2⟩)
              go_upto_region 15 with fail
              rw [← hR, ← hW6]
              clear hW6 hR k1b k2b k3 k4 k5
              go_region_held3 (fun w' => w'.cell? ⟨A, 0, none⟩ = some (.int .i64 c.s) ∧ w'.cell? ⟨A, 1, none⟩ = some (.int .i64 c.wy) ∧ w'.cell? ⟨A, 2, none⟩ = some (.int .i64 c.h) ∧ w'.cell? ⟨A, 3, none⟩ = some (.int .i64 c.mi) ∧ w'.cell? ⟨A, 4, none⟩ = some (.slice c.mb.A c.mb.n c.mb.cap) ∧ w'.cell? ⟨A, 5, none⟩ = some (.int .i64 c.g) ∧ w'.cell? ⟨A, 6, none⟩ = some (.slice c.cn.A c.cn.n c.cn.cap) ∧ w'.cell? ⟨A, 7, none⟩ = some (.slice c.ce.A c.ce.n c.ce.cap) ∧ w'.cell? ⟨A, 8, none⟩ = some (.slice c.ta.A c.ta.n c.ta.cap) ∧ w'.cell? ⟨A, 9, none⟩ = some (.slice c.li.A c.li.n c.li.cap) ∧ w'.cell? ⟨R, 0, none⟩ = some (.int .i64 c.mb.n) ∧ w'.cell? ⟨R, 1, none⟩ = some (.int .i64 c.g) ∧ w'.cell? ⟨R, 2, none⟩ = some (.int .i64 c.cn.n) ∧ w'.cell? ⟨R, 3, none⟩ = some (.int .i64 c.ce.n))
                (exact hboth.out _ (by repeat (first | assumption | exact Only.refl _ _ | apply Only.drew)))
                (first
                  | (go_at_call 11; refine (j1.out _ (by repeat (first | assumption | exact Only.refl _ _ | apply Only.drew))).mono ?_; rintro _ w8 ⟨rfl, hO8⟩)
                  | (go_at_call 12; refine (j2.out _ (by repeat (first | assumption | exact Only.refl _ _ | apply Only.drew))).mono ?_; rintro _ w9 ⟨rfl, hO9⟩))
              all_goals
                have h8 := Lib.hid hO8
                have h9 := Lib.hid hO9
                clear hO8 hO9
                go_wp2
                go_ret
                exact ⟨rfl, hOw.out.trans' (hO6.out.trans' (by first | exact h8.out | exact h9.out | exact h8.out.drew | exact h9.out.drew))⟩
end Go.Proofs.YtbjpnjgkpkfngaaGreatDoor
