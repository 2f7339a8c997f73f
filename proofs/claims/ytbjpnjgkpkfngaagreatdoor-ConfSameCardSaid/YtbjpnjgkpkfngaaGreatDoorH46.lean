/- ConfSame's walk. -/
import Derived.Test.YtbjpnjgkpkfngaaGreatDoorGF
import Derived.Test.YtbjpnjgkpkfngaaGreatDoorH24
namespace Go.Proofs.YtbjpnjgkpkfngaaGreatDoor
open Go Go.RowKit

set_option maxRecDepth 100000 in
set_option maxHeartbeats 8000000 in
theorem sames_any {w : World} (hb : Bas w) (h3 : 3 ≤ w.heap.size) {c e : ConfV} {d d2 : ConfL} {pl ql : Tks} (hc : ConfIn w c d pl) (he : ConfIn w e d2 ql) : Calls Tryz.prog 5 #[c.val, e.val] w (GrowB true w) := by
  rw [show c.val = .agg #[.int .i64 c.s, .int .i64 c.wy, .int .i64 c.h, .int .i64 c.mi, .slice c.mb.A c.mb.n c.mb.cap, .int .i64 c.g, .slice c.cn.A c.cn.n c.cn.cap, .slice c.ce.A c.ce.n c.ce.cap, .slice c.ta.A c.ta.n c.ta.cap, .slice c.li.A c.li.n c.li.cap] from rfl, show e.val = .agg #[.int .i64 e.s, .int .i64 e.wy, .int .i64 e.h, .int .i64 e.mi, .slice e.mb.A e.mb.n e.mb.cap, .int .i64 e.g, .slice e.cn.A e.cn.n e.cn.cap, .slice e.ce.A e.ce.n e.ce.cap, .slice e.ta.A e.ta.n e.ta.cap, .slice e.li.A e.li.n e.li.cap] from rfl]
  obtain ⟨A, hA⟩ : ∃ A, A = w.heap.size := ⟨_, rfl⟩
  obtain ⟨B, hB⟩ : ∃ B, B = w.heap.size + 1 := ⟨_, rfl⟩
  obtain ⟨W1, hW1⟩ : ∃ W1, W1 = (w.alloc (.cells c.cells.toArray 27)).alloc (.cells e.cells.toArray 27) := ⟨_, rfl⟩
  have hO := Lib.hid (show Only (fun _ => False) w W1 by rw [hW1]; exact ((Only.refl _ w).alloc _).alloc _)
  have hcA : W1.heap[A]? = some (.cells c.cells.toArray 27 (0, 0)) := by rw [hW1]; exact heap_kept_alloc (heap_new_at _ _ hA.symm) _
  have hcB : W1.heap[B]? = some (.cells e.cells.toArray 27 (0, 0)) := by rw [hW1]; exact heap_new_at _ _ (by simp [hB])
  have hcells := Lib.hid (show ∀ W, Only (fun _ => False) W1 W → W.cell? ⟨A, 0, none⟩ = some (.int .i64 c.s) ∧ W.cell? ⟨A, 1, none⟩ = some (.int .i64 c.wy) ∧ W.cell? ⟨A, 2, none⟩ = some (.int .i64 c.h) ∧ W.cell? ⟨A, 3, none⟩ = some (.int .i64 c.mi) ∧ W.cell? ⟨A, 4, none⟩ = some (.slice c.mb.A c.mb.n c.mb.cap) ∧ W.cell? ⟨A, 5, none⟩ = some (.int .i64 c.g) ∧ W.cell? ⟨A, 6, none⟩ = some (.slice c.cn.A c.cn.n c.cn.cap) ∧ W.cell? ⟨A, 7, none⟩ = some (.slice c.ce.A c.ce.n c.ce.cap) ∧ W.cell? ⟨A, 8, none⟩ = some (.slice c.ta.A c.ta.n c.ta.cap) ∧ W.cell? ⟨A, 9, none⟩ = some (.slice c.li.A c.li.n c.li.cap) ∧ W.cell? ⟨B, 0, none⟩ = some (.int .i64 e.s) ∧ W.cell? ⟨B, 1, none⟩ = some (.int .i64 e.wy) ∧ W.cell? ⟨B, 2, none⟩ = some (.int .i64 e.h) ∧ W.cell? ⟨B, 3, none⟩ = some (.int .i64 e.mi) ∧ W.cell? ⟨B, 4, none⟩ = some (.slice e.mb.A e.mb.n e.mb.cap) ∧ W.cell? ⟨B, 5, none⟩ = some (.int .i64 e.g) ∧ W.cell? ⟨B, 6, none⟩ = some (.slice e.cn.A e.cn.n e.cn.cap) ∧ W.cell? ⟨B, 7, none⟩ = some (.slice e.ce.A e.ce.n e.ce.cap) ∧ W.cell? ⟨B, 8, none⟩ = some (.slice e.ta.A e.ta.n e.ta.cap) ∧ W.cell? ⟨B, 9, none⟩ = some (.slice e.li.A e.li.n e.li.cap) from fun W ho => by
    have a := ho.heap hcA (fun h => h)
    have b := ho.heap hcB (fun h => h)
    exact ⟨row_cell a (i := 0) rfl, row_cell a (i := 1) rfl, row_cell a (i := 2) rfl, row_cell a (i := 3) rfl, row_cell a (i := 4) rfl, row_cell a (i := 5) rfl, row_cell a (i := 6) rfl, row_cell a (i := 7) rfl, row_cell a (i := 8) rfl, row_cell a (i := 9) rfl, row_cell b (i := 0) rfl, row_cell b (i := 1) rfl, row_cell b (i := 2) rfl, row_cell b (i := 3) rfl, row_cell b (i := 4) rfl, row_cell b (i := 5) rfl, row_cell b (i := 6) rfl, row_cell b (i := 7) rfl, row_cell b (i := 8) rfl, row_cell b (i := 9) rfl⟩)
  have qf := Lib.hid (fixed_any (hb.new hO.out) (Nat.le_trans h3 hO.out.size))
  have q1 := Lib.hid (fun W (ho : Only (fun _ => False) W1 W) => (hc.new (hO.out.trans' ho)).few)
  have q2 := Lib.hid (fun W (ho : Only (fun _ => False) W1 W) => (he.new (hO.out.trans' ho)).few)
  obtain ⟨F1, hF1⟩ : ∃ F, F = fewB c pl.ts := ⟨_, rfl⟩
  obtain ⟨F2, hF2⟩ : ∃ F, F = fewB e ql.ts := ⟨_, rfl⟩
  rw [← hF1] at q1
  rw [← hF2] at q2
  have hF1' := Lib.hid hF1
  have hF2' := Lib.hid hF2
  have hc' := Lib.hid hc
  have he' := Lib.hid he
  have hW1' := Lib.hid hW1
  unfold ConfV.cells at hW1
  clear hcA hcB hF1 hF2 hc he hb h3
  go_enter Tryz.func5, Tryz.ntmps5
  go_wp2_with fail
  rw [← hA, show A + 1 = B by omega, ← hW1]
  clear hW1 hA hB
  refine qf.out.mono ?_
  rintro r w2 ⟨rfl, hO2⟩
  obtain ⟨a0, a1, a2, a3, a4, a5, a6, a7, a8, a9, b0, b1, b2, b3, b4, b5, b6, b7, b8, b9⟩ := hcells.out w2 hO2
  have hO2' := Lib.hid hO2
  clear hO2
  go_wp2_with fail
  refine (q1.out _ hO2'.out).mono ?_
  rintro r w3 ⟨rfl, hO3⟩
  have hO3' := Lib.hid (hO2'.out.trans' hO3)
  clear hO3 a0 a1 a2 a3 a4 a5 a6 a7 a8 a9 b0 b1 b2 b3 b4 b5 b6 b7 b8 b9
  cases F1 with
  | false =>
    go_wp2
    go_ret
    exact ⟨rfl, hO.out.trans' hO3'.out⟩
  | true =>
    obtain ⟨a0, a1, a2, a3, a4, a5, a6, a7, a8, a9, b0, b1, b2, b3, b4, b5, b6, b7, b8, b9⟩ := hcells.out w3 hO3'.out
    go_wp2_with fail
    refine (q2.out _ hO3'.out).mono ?_
    rintro r w4 ⟨rfl, hO4⟩
    have hO4' := Lib.hid (hO3'.out.trans' hO4)
    clear hO4 a0 a1 a2 a3 a4 a5 a6 a7 a8 a9 b0 b1 b2 b3 b4 b5 b6 b7 b8 b9
    cases F2 with
    | false =>
      go_wp2
      go_ret
      exact ⟨rfl, hO.out.trans' hO4'.out⟩
    | true =>
      have cA := (hc'.out.new (hO.out.trans' hO4'.out)).conf hF1'.out.symm
      have cB := (he'.out.new (hO.out.trans' hO4'.out)).conf hF2'.out.symm
      have hc4 := Lib.hid (fun W (ho : Only (fun _ => False) w4 W) => hcells.out W (hO4'.out.trans' ho))
      obtain ⟨z, hz⟩ : ∃ z, z = sameB c d pl e d2 ql := ⟨_, rfl⟩
      have s1 := Lib.hid (show ∀ W, Only (fun _ => False) w4 W → Calls Tryz.prog 17 #[.agg #[.int .i64 c.s, .int .i64 c.wy, .int .i64 c.h, .int .i64 c.mi, .slice c.mb.A c.mb.n c.mb.cap, .int .i64 c.g, .slice c.cn.A c.cn.n c.cn.cap, .slice c.ce.A c.ce.n c.ce.cap, .slice c.ta.A c.ta.n c.ta.cap, .slice c.li.A c.li.n c.li.cap], .agg #[.int .i64 e.s, .int .i64 e.wy, .int .i64 e.h, .int .i64 e.mi, .slice e.mb.A e.mb.n e.mb.cap, .int .i64 e.g, .slice e.cn.A e.cn.n e.cn.cap, .slice e.ce.A e.ce.n e.ce.cap, .slice e.ta.A e.ta.n e.ta.cap, .slice e.li.A e.li.n e.li.cap]] W fun r w' => r = .returned (.bool z) ∧ Only (fun _ => False) w4 w' from fun W ho => (same_any (cA.new ho) (cB.new ho)).mono fun r w' ⟨h1, h2⟩ => ⟨by rw [h1, hz], ho.trans' h2⟩)
      have s2 := Lib.hid (show ∀ W, Only (fun _ => False) w4 W → Calls Tryz.prog 16 #[.agg #[.int .i64 c.s, .int .i64 c.wy, .int .i64 c.h, .int .i64 c.mi, .slice c.mb.A c.mb.n c.mb.cap, .int .i64 c.g, .slice c.cn.A c.cn.n c.cn.cap, .slice c.ce.A c.ce.n c.ce.cap, .slice c.ta.A c.ta.n c.ta.cap, .slice c.li.A c.li.n c.li.cap], .agg #[.int .i64 e.s, .int .i64 e.wy, .int .i64 e.h, .int .i64 e.mi, .slice e.mb.A e.mb.n e.mb.cap, .int .i64 e.g, .slice e.cn.A e.cn.n e.cn.cap, .slice e.ce.A e.ce.n e.ce.cap, .slice e.ta.A e.ta.n e.ta.cap, .slice e.li.A e.li.n e.li.cap]] W fun r w' => r = .returned (.bool z) ∧ Only (fun _ => False) w4 w' from fun W ho => (rsame_any (cA.new ho) (cB.new ho)).mono fun r w' ⟨h1, h2⟩ => ⟨by rw [h1, hz], ho.trans' h2⟩)
      have s3 := Lib.hid (show ∀ W, Only (fun _ => False) w4 W → Calls Tryz.prog 17 #[.agg #[.int .i64 c.s, .int .i64 c.wy, .int .i64 c.h, .int .i64 c.mi, .slice c.mb.A c.mb.n c.mb.cap, .int .i64 c.g, .slice c.cn.A c.cn.n c.cn.cap, .slice c.ce.A c.ce.n c.ce.cap, .slice c.ta.A c.ta.n c.ta.cap, .slice c.li.A c.li.n c.li.cap], .agg #[.int .i64 c.s, .int .i64 c.wy, .int .i64 c.h, .int .i64 c.mi, .slice c.mb.A c.mb.n c.mb.cap, .int .i64 c.g, .slice c.cn.A c.cn.n c.cn.cap, .slice c.ce.A c.ce.n c.ce.cap, .slice c.ta.A c.ta.n c.ta.cap, .slice c.li.A c.li.n c.li.cap]] W fun r w' => r = .returned (.bool true) ∧ Only (fun _ => False) w4 w' from fun W ho => (same_any (cA.new ho) (cA.new ho)).mono fun r w' ⟨h1, h2⟩ => ⟨by rw [h1, (alike_self c pl).same], ho.trans' h2⟩)
      have s4 := Lib.hid (show ∀ W, Only (fun _ => False) w4 W → Calls Tryz.prog 17 #[.agg #[.int .i64 e.s, .int .i64 e.wy, .int .i64 e.h, .int .i64 e.mi, .slice e.mb.A e.mb.n e.mb.cap, .int .i64 e.g, .slice e.cn.A e.cn.n e.cn.cap, .slice e.ce.A e.ce.n e.ce.cap, .slice e.ta.A e.ta.n e.ta.cap, .slice e.li.A e.li.n e.li.cap], .agg #[.int .i64 e.s, .int .i64 e.wy, .int .i64 e.h, .int .i64 e.mi, .slice e.mb.A e.mb.n e.mb.cap, .int .i64 e.g, .slice e.cn.A e.cn.n e.cn.cap, .slice e.ce.A e.ce.n e.ce.cap, .slice e.ta.A e.ta.n e.ta.cap, .slice e.li.A e.li.n e.li.cap]] W fun r w' => r = .returned (.bool true) ∧ Only (fun _ => False) w4 w' from fun W ho => (same_any (cB.new ho) (cB.new ho)).mono fun r w' ⟨h1, h2⟩ => ⟨by rw [h1, (alike_self e ql).same], ho.trans' h2⟩)
      have zz : (z == z) = true := by simp
      clear cA cB hz hc' he' hF1' hF2' q1 q2 qf
      go_upto_region 5 with fail
      go_region_held3 (fun w' => w'.cell? ⟨A, 0, none⟩ = some (.int .i64 c.s) ∧ w'.cell? ⟨A, 1, none⟩ = some (.int .i64 c.wy) ∧ w'.cell? ⟨A, 2, none⟩ = some (.int .i64 c.h) ∧ w'.cell? ⟨A, 3, none⟩ = some (.int .i64 c.mi) ∧ w'.cell? ⟨A, 4, none⟩ = some (.slice c.mb.A c.mb.n c.mb.cap) ∧ w'.cell? ⟨A, 5, none⟩ = some (.int .i64 c.g) ∧ w'.cell? ⟨A, 6, none⟩ = some (.slice c.cn.A c.cn.n c.cn.cap) ∧ w'.cell? ⟨A, 7, none⟩ = some (.slice c.ce.A c.ce.n c.ce.cap) ∧ w'.cell? ⟨A, 8, none⟩ = some (.slice c.ta.A c.ta.n c.ta.cap) ∧ w'.cell? ⟨A, 9, none⟩ = some (.slice c.li.A c.li.n c.li.cap) ∧ w'.cell? ⟨B, 0, none⟩ = some (.int .i64 e.s) ∧ w'.cell? ⟨B, 1, none⟩ = some (.int .i64 e.wy) ∧ w'.cell? ⟨B, 2, none⟩ = some (.int .i64 e.h) ∧ w'.cell? ⟨B, 3, none⟩ = some (.int .i64 e.mi) ∧ w'.cell? ⟨B, 4, none⟩ = some (.slice e.mb.A e.mb.n e.mb.cap) ∧ w'.cell? ⟨B, 5, none⟩ = some (.int .i64 e.g) ∧ w'.cell? ⟨B, 6, none⟩ = some (.slice e.cn.A e.cn.n e.cn.cap) ∧ w'.cell? ⟨B, 7, none⟩ = some (.slice e.ce.A e.ce.n e.ce.cap) ∧ w'.cell? ⟨B, 8, none⟩ = some (.slice e.ta.A e.ta.n e.ta.cap) ∧ w'.cell? ⟨B, 9, none⟩ = some (.slice e.li.A e.li.n e.li.cap))
        (exact hc4.out _ (by repeat (first | assumption | exact Only.refl _ _ | apply Only.drew)))
        (first
          | (go_at_call 17; (with_reducible refine (s1.out _ (by repeat (first | assumption | exact Only.refl _ _ | apply Only.drew))).mono ?_); rintro _ w6 ⟨rfl, hO6⟩)
          | (go_at_call 16; (with_reducible refine (s2.out _ (by repeat (first | assumption | exact Only.refl _ _ | apply Only.drew))).mono ?_); rintro _ w7 ⟨rfl, hO7⟩)
          | (go_at_call 17; (with_reducible refine (s3.out _ (by repeat (first | assumption | exact Only.refl _ _ | apply Only.drew))).mono ?_); rintro _ w8 ⟨rfl, hO8⟩)
          | (go_at_call 17; (with_reducible refine (s4.out _ (by repeat (first | assumption | exact Only.refl _ _ | apply Only.drew))).mono ?_); rintro _ w9 ⟨rfl, hO9⟩))
      all_goals
        have hlast := Lib.hid hO9
        clear hO9 hO8 hO7 hO6
        go_wp2
        go_ret
        exact ⟨rfl, (hO.out.trans' hO4'.out).trans' (by first | exact hlast.out | exact hlast.out.drew)⟩
end Go.Proofs.YtbjpnjgkpkfngaaGreatDoor
