/- ConfTexts' walk. -/
import Derived.Test.YtbjpnjgkpkfngaaGreatDoorGF
import Derived.Test.YtbjpnjgkpkfngaaGreatDoorH24
import Derived.Test.YtbjpnjgkpkfngaaGreatDoorH29
import Derived.Test.YtbjpnjgkpkfngaaGreatDoorConf10
namespace Go.Proofs.YtbjpnjgkpkfngaaGreatDoor
open Go Go.RowKit

theorem ConfAt.fit {w : World} {c : ConfV} {d : ConfL} {pl : Tks} (h : ConfAt w c d pl) (hz : confZ c d pl = 0) : Fit c d pl := by
  have f := confZ_fine hz
  have b1 := f.mb.2
  have b2 := f.cn.2
  have b3 := f.ce.2
  have b4 := f.li.2
  have l1 := h.o.mb.len
  have l2 := h.o.cn.len
  have l3 := h.o.ce.len
  have l4 := h.o.li.len
  refine ⟨f, by omega, by omega, by omega, by omega, ?_⟩
  have := h.t.len
  unfold Tks.ts at this
  rwa [List.length_map] at this
theorem ConfAt.sized {w : World} {c : ConfV} {d : ConfL} {pl : Tks} (h : ConfAt w c d pl) : Sized c d := ⟨h.o.mb.len.symm, h.o.cn.len.symm, h.o.ce.len.symm, h.o.li.len.symm⟩

/-- The argument in a block of its own, behind the fixed calls. -/
structure Box (w : World) (A : Nat) (c : ConfV) (W1 : World) : Prop where
  only : Only (fun _ => False) w W1
  cells : ∀ W, Only (fun _ => False) W1 W → W.cell? ⟨A, 0, none⟩ = some (.int .i64 c.s) ∧ W.cell? ⟨A, 1, none⟩ = some (.int .i64 c.wy) ∧ W.cell? ⟨A, 2, none⟩ = some (.int .i64 c.h) ∧ W.cell? ⟨A, 3, none⟩ = some (.int .i64 c.mi) ∧ W.cell? ⟨A, 4, none⟩ = some (.slice c.mb.A c.mb.n c.mb.cap) ∧ W.cell? ⟨A, 5, none⟩ = some (.int .i64 c.g) ∧ W.cell? ⟨A, 6, none⟩ = some (.slice c.cn.A c.cn.n c.cn.cap) ∧ W.cell? ⟨A, 7, none⟩ = some (.slice c.ce.A c.ce.n c.ce.cap) ∧ W.cell? ⟨A, 8, none⟩ = some (.slice c.ta.A c.ta.n c.ta.cap) ∧ W.cell? ⟨A, 9, none⟩ = some (.slice c.li.A c.li.n c.li.cap)

theorem box_of {w : World} (c : ConfV) : Box w w.heap.size c (w.alloc (.cells c.cells.toArray 27)) :=
  ⟨(Only.refl _ w).alloc _, fun W ho => by
    have a := ho.heap (heap_new_at w (.cells c.cells.toArray 27) rfl) (fun h => h)
    exact ⟨row_cell a (i := 0) rfl, row_cell a (i := 1) rfl, row_cell a (i := 2) rfl, row_cell a (i := 3) rfl, row_cell a (i := 4) rfl, row_cell a (i := 5) rfl, row_cell a (i := 6) rfl, row_cell a (i := 7) rfl, row_cell a (i := 8) rfl, row_cell a (i := 9) rfl⟩⟩

set_option maxRecDepth 100000 in
set_option maxHeartbeats 8000000 in
theorem texts_any {w : World} (hb : Bas w) (h3 : 3 ≤ w.heap.size) {c : ConfV} {d : ConfL} {pl : Tks} (hc : ConfIn w c d pl) : Calls Tryz.prog 4 #[c.val] w (GrowB true w) := by
  rw [show c.val = .agg #[.int .i64 c.s, .int .i64 c.wy, .int .i64 c.h, .int .i64 c.mi, .slice c.mb.A c.mb.n c.mb.cap, .int .i64 c.g, .slice c.cn.A c.cn.n c.cn.cap, .slice c.ce.A c.ce.n c.ce.cap, .slice c.ta.A c.ta.n c.ta.cap, .slice c.li.A c.li.n c.li.cap] from rfl]
  obtain ⟨A, hA⟩ : ∃ A, A = w.heap.size := ⟨_, rfl⟩
  obtain ⟨W1, hW1⟩ : ∃ W1, W1 = w.alloc (.cells c.cells.toArray 27) := ⟨_, rfl⟩
  have hbox := Lib.hid (show Box w A c W1 by rw [hA, hW1]; exact box_of c)
  have qf := Lib.hid (fixed_any (hb.new hbox.out.only) (Nat.le_trans h3 hbox.out.only.size))
  have q1 := Lib.hid (fun W (ho : Only (fun _ => False) W1 W) => (hc.new (hbox.out.only.trans' ho)).few)
  obtain ⟨F1, hF1⟩ : ∃ F, F = fewB c pl.ts := ⟨_, rfl⟩
  rw [← hF1] at q1
  have hF1' := Lib.hid hF1
  have hc' := Lib.hid hc
  have hb' := Lib.hid hb
  have h3' := Lib.hid h3
  unfold ConfV.cells at hW1
  clear hF1 hc hb h3
  go_enter Tryz.func4, Tryz.ntmps4
  go_wp2_with fail
  rw [← hA, ← hW1]
  clear hW1 hA
  refine qf.out.mono ?_
  rintro r w2 ⟨rfl, hO2⟩
  obtain ⟨a0, a1, a2, a3, a4, a5, a6, a7, a8, a9⟩ := hbox.out.cells w2 hO2
  have hO2' := Lib.hid hO2
  clear hO2 qf
  go_wp2_with fail
  refine (q1.out _ hO2'.out).mono ?_
  rintro r w3 ⟨rfl, hO3⟩
  have hO3' := Lib.hid (hO2'.out.trans' hO3)
  clear hO3 a0 a1 a2 a3 a4 a5 a6 a7 a8 a9 hO2' q1
  cases F1 with
  | false =>
    go_wp2
    go_ret
    exact ⟨rfl, hbox.out.only.trans' hO3'.out⟩
  | true =>
    obtain ⟨a0, a1, a2, a3, a4, a5, a6, a7, a8, a9⟩ := hbox.out.cells w3 hO3'.out
    by_cases g1 : 1000 < c.g
    · go_wp2
      go_ret
      exact ⟨rfl, hbox.out.only.trans' hO3'.out⟩
    · by_cases g2 : c.g < -1000
      · go_wp2
        go_ret
        exact ⟨rfl, hbox.out.only.trans' hO3'.out⟩
      · have cA := (hc'.out.new (hbox.out.only.trans' hO3'.out)).conf hF1'.out.symm
        have hb4 := Lib.hid (hb'.out.new (hbox.out.only.trans' hO3'.out))
        have h34 := Lib.hid (Nat.le_trans h3'.out (hbox.out.only.trans' hO3'.out).size)
        have hcl := Lib.hid (fun W (ho : Only (fun _ => False) w3 W) => hbox.out.cells W (hO3'.out.trans' ho))
        have hOw := Lib.hid (hbox.out.only.trans' hO3'.out)
        obtain ⟨z, hz⟩ : ∃ z, z = confZ c d pl := ⟨_, rfl⟩
        have qr := Lib.hid (show ∀ W, Only (fun _ => False) w3 W → Calls Tryz.prog 12 #[.agg #[.int .i64 c.s, .int .i64 c.wy, .int .i64 c.h, .int .i64 c.mi, .slice c.mb.A c.mb.n c.mb.cap, .int .i64 c.g, .slice c.cn.A c.cn.n c.cn.cap, .slice c.ce.A c.ce.n c.ce.cap, .slice c.ta.A c.ta.n c.ta.cap, .slice c.li.A c.li.n c.li.cap]] W (GrowI z W) from fun W ho => hz ▸ rconfCheck_any (cA.new ho))
        by_cases hz0 : z = 0
        · have hzz : confZ c d pl = 0 := by rw [← hz, hz0]
          obtain ⟨S, hS⟩ : ∃ S, S = toBA (confT c d pl) := ⟨_, rfl⟩
          have qt := Lib.hid (show Calls Tryz.prog 13 #[.agg #[.int .i64 c.s, .int .i64 c.wy, .int .i64 c.h, .int .i64 c.mi, .slice c.mb.A c.mb.n c.mb.cap, .int .i64 c.g, .slice c.cn.A c.cn.n c.cn.cap, .slice c.ce.A c.ce.n c.ce.cap, .slice c.ta.A c.ta.n c.ta.cap, .slice c.li.A c.li.n c.li.cap]] w3 fun e w' => e = .returned (.tuple #[.string S, .int .i64 0]) ∧ Only (fun _ => False) w3 w' from hS ▸ ctext_fine hb4.out cA hzz)
          have qp := Lib.hid (show ∀ W, Only (fun _ => False) w3 W → Calls Tryz.prog 14 #[.string S] W (PaEnd c d pl W) from fun W ho => hS ▸ parse_fine (hb4.out.new ho) (cA.fit hzz) cA.sized hzz (Nat.le_trans h34.out ho.size))
          have qu := Lib.hid (show ∀ W, Only (fun _ => False) w3 W → Calls Tryz.prog 15 #[.agg #[.int .i64 c.s, .int .i64 c.wy, .int .i64 c.h, .int .i64 c.mi, .slice c.mb.A c.mb.n c.mb.cap, .int .i64 c.g, .slice c.cn.A c.cn.n c.cn.cap, .slice c.ce.A c.ce.n c.ce.cap, .slice c.ta.A c.ta.n c.ta.cap, .slice c.li.A c.li.n c.li.cap]] W fun e w' => e = .returned (.string S) ∧ Only (fun _ => False) W w' from fun W ho => hS ▸ rctext_fine (cA.new ho) hzz)
          have hfit := Lib.hid (cA.fit hzz)
          have hsz := Lib.hid (ConfAt.sized cA)
          have cA' := Lib.hid cA
          subst hz0
          clear cA hz hzz hS hc' hF1' hO3' hbox hb'
          go_wp2_with fail
          refine qt.out.mono ?_
          rintro r w4 ⟨rfl, hO4⟩
          have hO4' := Lib.hid hO4
          clear a0 a1 a2 a3 a4 a5 a6 a7 a8 a9 hO4
          obtain ⟨a0, a1, a2, a3, a4, a5, a6, a7, a8, a9⟩ := hcl.out w4 hO4'.out
          go_wp2_with fail
          refine (qr.out w4 hO4'.out).mono ?_
          rintro r w5 ⟨rfl, hO5⟩
          have hO5' := Lib.hid (hO4'.out.trans' hO5)
          clear a0 a1 a2 a3 a4 a5 a6 a7 a8 a9 hO5
          go_wp2_with fail
          refine (qp.out w5 hO5'.out).mono ?_
          rintro r w6 ⟨e, ts, rfl, hD, hO6⟩
          rw [show e.val = .agg #[.int .i64 e.s, .int .i64 e.wy, .int .i64 e.h, .int .i64 e.mi, .slice e.mb.A e.mb.n e.mb.cap, .int .i64 e.g, .slice e.cn.A e.cn.n e.cn.cap, .slice e.ce.A e.ce.n e.ce.cap, .slice e.ta.A e.ta.n e.ta.cap, .slice e.li.A e.li.n e.li.cap] from rfl]
          have hO6' := Lib.hid (hO5'.out.trans' hO6)
          obtain ⟨ql, hCe, hal⟩ := hD.conf hfit.out hsz.out
          obtain ⟨a0, a1, a2, a3, a4, a5, a6, a7, a8, a9⟩ := hcl.out w6 hO6'.out
          have hCe' := Lib.hid hCe
          have hal' := Lib.hid hal
          obtain ⟨D, hDD⟩ : ∃ D, D = w6.heap.size := ⟨_, rfl⟩
          have hDD' := Lib.hid hDD
          have al1 := World.block_lt_of_cell? w6 _ a0
          clear hO6 hCe hal hD hDD
          go_wp2_with fail
          rw [← hDD'.out]
          have oal := Lib.hid ((Only.refl (fun _ => False) w6).alloc (.cells e.cells.toArray 27))
          have hDn := Lib.hid (heap_new_at w6 (.cells e.cells.toArray 27) hDD'.out.symm)
          refine (qu.out _ (hO6'.out.trans' oal.out)).mono ?_
          rintro r w7 ⟨rfl, hO7⟩
          have hO7' := Lib.hid (hO6'.out.trans' (oal.out.trans' hO7))
          have hD7 := hO7.heap hDn.out (fun h => h)
          have hs7 := Lib.hid (show Calls Tryz.prog 16 #[.agg #[.int .i64 c.s, .int .i64 c.wy, .int .i64 c.h, .int .i64 c.mi, .slice c.mb.A c.mb.n c.mb.cap, .int .i64 c.g, .slice c.cn.A c.cn.n c.cn.cap, .slice c.ce.A c.ce.n c.ce.cap, .slice c.ta.A c.ta.n c.ta.cap, .slice c.li.A c.li.n c.li.cap], .agg #[.int .i64 e.s, .int .i64 e.wy, .int .i64 e.h, .int .i64 e.mi, .slice e.mb.A e.mb.n e.mb.cap, .int .i64 e.g, .slice e.cn.A e.cn.n e.cn.cap, .slice e.ce.A e.ce.n e.ce.cap, .slice e.ta.A e.ta.n e.ta.cap, .slice e.li.A e.li.n e.li.cap]] w7 fun r w' => r = .returned (.bool true) ∧ Only (fun _ => False) w7 w' from (rsame_any (cA'.out.new hO7'.out) (hCe'.out.new (oal.out.trans' hO7))).mono fun r w' ⟨h1, h2⟩ => ⟨by rw [h1, hal'.out.same], h2⟩)
          clear a0 a1 a2 a3 a4 a5 a6 a7 a8 a9 hO7
          obtain ⟨a0, a1, a2, a3, a4, a5, a6, a7, a8, a9⟩ := hcl.out w7 hO7'.out
          have b0 := row_cell hD7 (i := 0) rfl
          have b1 := row_cell hD7 (i := 1) rfl
          have b2 := row_cell hD7 (i := 2) rfl
          have b3 := row_cell hD7 (i := 3) rfl
          have b4 := row_cell hD7 (i := 4) rfl
          have b5 := row_cell hD7 (i := 5) rfl
          have b6 := row_cell hD7 (i := 6) rfl
          have b7 := row_cell hD7 (i := 7) rfl
          have b8 := row_cell hD7 (i := 8) rfl
          have b9 := row_cell hD7 (i := 9) rfl
          clear hD7
          go_wp2_with fail
          refine hs7.out.mono ?_
          rintro r w8 ⟨rfl, hO8⟩
          have hO8' := Lib.hid (hOw.out.trans' (hO7'.out.trans' hO8))
          clear hO8
          go_wp2
          go_ret
          exact ⟨rfl, hO8'.out⟩
        · have qt := Lib.hid (show Calls Tryz.prog 13 #[.agg #[.int .i64 c.s, .int .i64 c.wy, .int .i64 c.h, .int .i64 c.mi, .slice c.mb.A c.mb.n c.mb.cap, .int .i64 c.g, .slice c.cn.A c.cn.n c.cn.cap, .slice c.ce.A c.ce.n c.ce.cap, .slice c.ta.A c.ta.n c.ta.cap, .slice c.li.A c.li.n c.li.cap]] w3 fun e w' => e = .returned (.tuple #[.string ByteArray.empty, .int .i64 z]) ∧ Only (fun _ => False) w3 w' from hz ▸ ctext_bad hb4.out.words cA (by rw [← hz]; exact hz0))
          have zz : (z == z) = true := by simp
          have zn : (z == 0) = false := by simp [hz0]
          clear cA hz hc' hF1' hO3' hbox hb'
          go_wp2_with fail
          refine qt.out.mono ?_
          rintro r w4 ⟨rfl, hO4⟩
          have hO4' := Lib.hid hO4
          clear a0 a1 a2 a3 a4 a5 a6 a7 a8 a9 hO4
          obtain ⟨a0, a1, a2, a3, a4, a5, a6, a7, a8, a9⟩ := hcl.out w4 hO4'.out
          go_wp2_with fail
          refine (qr.out w4 hO4'.out).mono ?_
          rintro r w5 ⟨rfl, hO5⟩
          have hO5' := Lib.hid (hOw.out.trans' (hO4'.out.trans' hO5))
          clear a0 a1 a2 a3 a4 a5 a6 a7 a8 a9 hO5
          go_wp2
          go_ret
          exact ⟨rfl, hO5'.out⟩
end Go.Proofs.YtbjpnjgkpkfngaaGreatDoor
