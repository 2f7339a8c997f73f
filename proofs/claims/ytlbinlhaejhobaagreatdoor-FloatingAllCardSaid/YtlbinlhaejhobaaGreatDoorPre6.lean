/- preempt: Lower, Higher, Delay, and what is told of no task. -/
import Derived.Test.YtlbinlhaejhobaaGreatDoorPI
namespace Go.Proofs.YtlbinlhaejhobaaGreatDoor
namespace Pre
open Go Go.RowKit Rca Sct Lin Lck Cst Rld
open Bch (U sA sC sA_le sC_le GrowU)

set_option maxRecDepth 100000 in
theorem blocking_none {w : World} {c : ConfV} {a b : Int} (hab : hasT c.ta.n a = false ∨ hasT c.ta.n b = false) :
    Calls Tryz.prog 110 #[c.val, .int .i64 a, .int .i64 b] w (GrowU 0 w) := by
  obtain ⟨q, hq⟩ : ∃ q, q = w.heap.size := ⟨_, rfl⟩
  obtain ⟨W2, hW2⟩ : ∃ W2, W2 = w.alloc (.cells c.cells.toArray 27) := ⟨_, rfl⟩
  have hO2 : Only (fun _ => False) w W2 := by rw [hW2]; exact (Only.refl _ w).alloc _
  have b0 : W2.heap[q]? = some (.cells c.cells.toArray 27 (0, 0)) := by rw [hW2]; exact heap_new_at _ _ hq.symm
  have hq' := Lib.hid hq
  have hcy := Lib.hid (fun W (ho : Only (fun _ => False) W2 W) => cyv_of (ho.heap b0 (fun h => h)))
  obtain ⟨cv, hcv⟩ : ∃ cv, cv = c.val := ⟨_, rfl⟩
  have ch1 := Lib.hid (fun W => show Calls Tryz.prog 134 #[cv, .int .i64 a] W (GrowB (hasT c.ta.n a) W) from by rw [hcv]; exact phas_any W c a)
  have ch2 := Lib.hid (fun W => show Calls Tryz.prog 134 #[cv, .int .i64 b] W (GrowB (hasT c.ta.n b) W) from by rw [hcv]; exact phas_any W c b)
  obtain ⟨ha, hha⟩ : ∃ x, x = hasT c.ta.n a := ⟨_, rfl⟩
  obtain ⟨hb, hhb⟩ : ∃ x, x = hasT c.ta.n b := ⟨_, rfl⟩
  rw [← hha] at hab ch1
  rw [← hhb] at hab ch2
  obtain ⟨Z, hZ⟩ : ∃ Z, Z = GrowU 0 w := ⟨_, rfl⟩
  rw [← hZ]
  have hfin := Lib.hid (fun W (ho : Only (fun _ => False) W2 W) => show Z (.returned (U 0)) W from by rw [hZ]; exact ⟨rfl, hO2.trans' ho⟩)
  rw [← hcv]
  unfold ConfV.val at hcv
  subst hcv
  unfold CYv at hcy
  unfold ConfV.cells at hW2
  have hW2' := Lib.hid hW2
  clear hZ hq hO2 b0 hW2 hha hhb
  obtain ⟨c0, wy, h, mi, ⟨mA, mn, mc⟩, g, ⟨cA, cn, cc⟩, ⟨eA, en, ec⟩, ⟨tA, tn, tc⟩, ⟨lA, ln, lc⟩⟩ := c
  dsimp only at *
  obtain ⟨d0, d1, d2, d3, d4, d5, d6, d7, d8, d9, dl⟩ := hcy.out W2 (Only.refl _ _)
  cases ha with
  | false =>
    go_enter Tryz.func110, Tryz.ntmps110
    go_upto_region 1 with fail
    rw [← hq'.out]
    rw [← hW2'.out]
    go_wp2_with fail
    refine (ch1.out W2).mono ?_
    rintro e w3 ⟨rfl, ho⟩
    have hf := Lib.hid (hfin.out w3 ho)
    clear ho d0 d1 d2 d3 d4 d5 d6 d7 d8 d9 dl
    go_wp2
    exact hf.out
  | true =>
    obtain rfl : hb = false := by simpa using hab
    go_enter Tryz.func110, Tryz.ntmps110
    go_upto_region 1 with fail
    rw [← hq'.out]
    rw [← hW2'.out]
    go_wp2_with fail
    refine (ch1.out W2).mono ?_
    rintro e w3 ⟨rfl, ho⟩
    have hO3 := Lib.hid ho
    clear ho d0 d1 d2 d3 d4 d5 d6 d7 d8 d9 dl
    obtain ⟨d0, d1, d2, d3, d4, d5, d6, d7, d8, d9, dl⟩ := hcy.out w3 hO3.out
    go_wp2_with fail
    refine (ch2.out w3).mono ?_
    rintro e w4 ⟨rfl, ho⟩
    have hf := Lib.hid (hfin.out w4 (hO3.out.trans' ho))
    clear ho d0 d1 d2 d3 d4 d5 d6 d7 d8 d9 dl
    go_wp2
    exact hf.out
set_option maxRecDepth 100000 in
theorem those_low_none {w : World} {c : ConfV} {z : Int} (hz : hasT c.ta.n z = false) :
    Calls Tryz.prog 96 #[c.val, .int .i64 z, .func (.func 147) #[] #[]] w (fun e w' => e = .returned (.slice none 0 0) ∧ Only (fun _ => False) w w') := by
  obtain ⟨q, hq⟩ : ∃ q, q = w.heap.size := ⟨_, rfl⟩
  obtain ⟨W2, hW2⟩ : ∃ W2, W2 = w.alloc (.cells c.cells.toArray 27) := ⟨_, rfl⟩
  have hO2 : Only (fun _ => False) w W2 := by rw [hW2]; exact (Only.refl _ w).alloc _
  have b0 : W2.heap[q]? = some (.cells c.cells.toArray 27 (0, 0)) := by rw [hW2]; exact heap_new_at _ _ hq.symm
  have hq' := Lib.hid hq
  have hcy := Lib.hid (fun W (ho : Only (fun _ => False) W2 W) => cyv_of (ho.heap b0 (fun h => h)))
  obtain ⟨cv, hcv⟩ : ∃ cv, cv = c.val := ⟨_, rfl⟩
  have ch1 := Lib.hid (fun W => show Calls Tryz.prog 134 #[cv, .int .i64 z] W (GrowB false W) from by rw [hcv, ← hz]; exact phas_any W c z)
  obtain ⟨Z, hZ⟩ : ∃ Z : Ending → World → Prop, Z = (fun e w' => e = .returned (.slice none 0 0) ∧ Only (fun _ => False) w w') := ⟨_, rfl⟩
  rw [← hZ]
  have hfin := Lib.hid (fun W (ho : Only (fun _ => False) W2 W) => show Z (.returned (.slice none 0 0)) W from by rw [hZ]; exact ⟨rfl, hO2.trans' ho⟩)
  rw [← hcv]
  unfold ConfV.val at hcv
  subst hcv
  unfold CYv at hcy
  unfold ConfV.cells at hW2
  have hW2' := Lib.hid hW2
  clear hZ hq hO2 b0 hW2 hz
  obtain ⟨c0, wy, h, mi, ⟨mA, mn, mc⟩, g, ⟨cA, cn, cc⟩, ⟨eA, en, ec⟩, ⟨tA, tn, tc⟩, ⟨lA, ln, lc⟩⟩ := c
  dsimp only at *
  obtain ⟨d0, d1, d2, d3, d4, d5, d6, d7, d8, d9, dl⟩ := hcy.out W2 (Only.refl _ _)
  go_enter Tryz.func96, Tryz.ntmps96
  go_upto_region 1 with fail
  rw [← hq'.out]
  rw [← hW2'.out]
  go_wp2_with fail
  refine (ch1.out W2).mono ?_
  rintro e w3 ⟨rfl, ho⟩
  have hf := Lib.hid (hfin.out w3 ho)
  clear ho d0 d1 d2 d3 d4 d5 d6 d7 d8 d9 dl
  go_wp2
  exact hf.out
set_option maxRecDepth 100000 in
theorem lower_any {w : World} {c : ConfV} {ts : List TaskV} (hT : TasksAt w c.ta ts) (hs9 : c.ta.n ≤ 1000000) {i : Nat} {ti : TaskV} (hi : ts[i]? = some ti) :
    Calls Tryz.prog 109 #[c.val, .int .i64 (i : Int)] w (RowEnd w (thoseU lowB ts ti.p c.ta.n)) := by
  obtain ⟨q, hq⟩ : ∃ q, q = w.heap.size := ⟨_, rfl⟩
  obtain ⟨W2, hW2⟩ : ∃ W2, W2 = w.alloc (.cells c.cells.toArray 27) := ⟨_, rfl⟩
  have hO2 : Only (fun _ => False) w W2 := by rw [hW2]; exact (Only.refl _ w).alloc _
  have b0 : W2.heap[q]? = some (.cells c.cells.toArray 27 (0, 0)) := by rw [hW2]; exact heap_new_at _ _ hq.symm
  have hq' := Lib.hid hq
  have hcy := Lib.hid (fun W (ho : Only (fun _ => False) W2 W) => cyv_of (ho.heap b0 (fun h => h)))
  obtain ⟨cv, hcv⟩ : ∃ cv, cv = c.val := ⟨_, rfl⟩
  obtain ⟨L, hL⟩ : ∃ L : List Nat, L = thoseU lowB ts ti.p c.ta.n := ⟨_, rfl⟩
  have ch1 := Lib.hid (show Calls Tryz.prog 96 #[cv, .int .i64 (i : Int), .func (.func 147) #[] #[]] W2 (RowEnd W2 L) from by rw [hcv, hL]; exact those_low (hT.new hO2) hs9 hi)
  rw [show RowEnd w (thoseU lowB ts ti.p c.ta.n) = RowEnd w L from by rw [hL]]
  unfold RowEnd at ch1
  obtain ⟨m, hm⟩ : ∃ m, m = L.length := ⟨_, rfl⟩
  rw [← hm] at ch1
  obtain ⟨Z, hZ⟩ : ∃ Z, Z = RowEnd w L := ⟨_, rfl⟩
  rw [← hZ]
  have hfin := Lib.hid (fun W (ho : Only (fun _ => False) W2 W) (p : Option Addr) (cp : Nat) (hh : Option Nat) (hW : Win W 3 1 (.slice p m cp) hh m (dat L)) (hf : ∀ b, hh = some b → W2.heap.size ≤ b) => show Z (.returned (.slice p m cp)) W from by
    rw [hZ]
    subst hm
    exact ⟨p, cp, hh, rfl, hW, fun b hb => Nat.le_trans hO2.size (hf b hb), hO2.trans' ho⟩)
  rw [← hcv]
  unfold ConfV.val at hcv
  subst hcv
  unfold CYv at hcy
  unfold ConfV.cells at hW2
  have hW2' := Lib.hid hW2
  clear hZ hq hO2 b0 hW2 hL hm hT hi
  obtain ⟨c0, wy, h, mi, ⟨mA, mn, mc⟩, g, ⟨cA, cn, cc⟩, ⟨eA, en, ec⟩, ⟨tA, tn, tc⟩, ⟨lA, ln, lc⟩⟩ := c
  dsimp only at *
  obtain ⟨d0, d1, d2, d3, d4, d5, d6, d7, d8, d9, dl⟩ := hcy.out W2 (Only.refl _ _)
  go_enter Tryz.func109, Tryz.ntmps109
  go_upto_region 1 with fail
  rw [← hq'.out]
  rw [← hW2'.out]
  go_wp2_with fail
  refine ch1.out.mono ?_
  rintro e w3 ⟨p, cp, hh, rfl, hW, hf, ho⟩
  have hf := Lib.hid (hfin.out w3 ho p cp hh hW hf)
  clear ho hW d0 d1 d2 d3 d4 d5 d6 d7 d8 d9 dl ch1 hfin
  go_wp2
  exact hf.out
set_option maxRecDepth 100000 in
theorem lower_none {w : World} {c : ConfV} {z : Int} (hz : hasT c.ta.n z = false) :
    Calls Tryz.prog 109 #[c.val, .int .i64 z] w (fun e w' => e = .returned (.slice none 0 0) ∧ Only (fun _ => False) w w') := by
  obtain ⟨q, hq⟩ : ∃ q, q = w.heap.size := ⟨_, rfl⟩
  obtain ⟨W2, hW2⟩ : ∃ W2, W2 = w.alloc (.cells c.cells.toArray 27) := ⟨_, rfl⟩
  have hO2 : Only (fun _ => False) w W2 := by rw [hW2]; exact (Only.refl _ w).alloc _
  have b0 : W2.heap[q]? = some (.cells c.cells.toArray 27 (0, 0)) := by rw [hW2]; exact heap_new_at _ _ hq.symm
  have hq' := Lib.hid hq
  have hcy := Lib.hid (fun W (ho : Only (fun _ => False) W2 W) => cyv_of (ho.heap b0 (fun h => h)))
  obtain ⟨cv, hcv⟩ : ∃ cv, cv = c.val := ⟨_, rfl⟩
  have ch1 := Lib.hid (show Calls Tryz.prog 96 #[cv, .int .i64 z, .func (.func 147) #[] #[]] W2 (fun e w' => e = .returned (.slice none 0 0) ∧ Only (fun _ => False) W2 w') from by rw [hcv]; exact those_low_none hz)
  obtain ⟨Z, hZ⟩ : ∃ Z : Ending → World → Prop, Z = (fun e w' => e = .returned (.slice none 0 0) ∧ Only (fun _ => False) w w') := ⟨_, rfl⟩
  rw [← hZ]
  have hfin := Lib.hid (fun W (ho : Only (fun _ => False) W2 W) => show Z (.returned (.slice none 0 0)) W from by rw [hZ]; exact ⟨rfl, hO2.trans' ho⟩)
  rw [← hcv]
  unfold ConfV.val at hcv
  subst hcv
  unfold CYv at hcy
  unfold ConfV.cells at hW2
  have hW2' := Lib.hid hW2
  clear hZ hq hO2 b0 hW2 hz
  obtain ⟨c0, wy, h, mi, ⟨mA, mn, mc⟩, g, ⟨cA, cn, cc⟩, ⟨eA, en, ec⟩, ⟨tA, tn, tc⟩, ⟨lA, ln, lc⟩⟩ := c
  dsimp only at *
  obtain ⟨d0, d1, d2, d3, d4, d5, d6, d7, d8, d9, dl⟩ := hcy.out W2 (Only.refl _ _)
  go_enter Tryz.func109, Tryz.ntmps109
  go_upto_region 1 with fail
  rw [← hq'.out]
  rw [← hW2'.out]
  go_wp2_with fail
  refine ch1.out.mono ?_
  rintro e w3 ⟨rfl, ho⟩
  have hf := Lib.hid (hfin.out w3 ho)
  clear ho d0 d1 d2 d3 d4 d5 d6 d7 d8 d9 dl ch1 hfin
  go_wp2
  exact hf.out
set_option maxRecDepth 100000 in
theorem those_high_none {w : World} {c : ConfV} {z : Int} (hz : hasT c.ta.n z = false) :
    Calls Tryz.prog 96 #[c.val, .int .i64 z, .func (.func 97) #[] #[]] w (fun e w' => e = .returned (.slice none 0 0) ∧ Only (fun _ => False) w w') := by
  obtain ⟨q, hq⟩ : ∃ q, q = w.heap.size := ⟨_, rfl⟩
  obtain ⟨W2, hW2⟩ : ∃ W2, W2 = w.alloc (.cells c.cells.toArray 27) := ⟨_, rfl⟩
  have hO2 : Only (fun _ => False) w W2 := by rw [hW2]; exact (Only.refl _ w).alloc _
  have b0 : W2.heap[q]? = some (.cells c.cells.toArray 27 (0, 0)) := by rw [hW2]; exact heap_new_at _ _ hq.symm
  have hq' := Lib.hid hq
  have hcy := Lib.hid (fun W (ho : Only (fun _ => False) W2 W) => cyv_of (ho.heap b0 (fun h => h)))
  obtain ⟨cv, hcv⟩ : ∃ cv, cv = c.val := ⟨_, rfl⟩
  have ch1 := Lib.hid (fun W => show Calls Tryz.prog 134 #[cv, .int .i64 z] W (GrowB false W) from by rw [hcv, ← hz]; exact phas_any W c z)
  obtain ⟨Z, hZ⟩ : ∃ Z : Ending → World → Prop, Z = (fun e w' => e = .returned (.slice none 0 0) ∧ Only (fun _ => False) w w') := ⟨_, rfl⟩
  rw [← hZ]
  have hfin := Lib.hid (fun W (ho : Only (fun _ => False) W2 W) => show Z (.returned (.slice none 0 0)) W from by rw [hZ]; exact ⟨rfl, hO2.trans' ho⟩)
  rw [← hcv]
  unfold ConfV.val at hcv
  subst hcv
  unfold CYv at hcy
  unfold ConfV.cells at hW2
  have hW2' := Lib.hid hW2
  clear hZ hq hO2 b0 hW2 hz
  obtain ⟨c0, wy, h, mi, ⟨mA, mn, mc⟩, g, ⟨cA, cn, cc⟩, ⟨eA, en, ec⟩, ⟨tA, tn, tc⟩, ⟨lA, ln, lc⟩⟩ := c
  dsimp only at *
  obtain ⟨d0, d1, d2, d3, d4, d5, d6, d7, d8, d9, dl⟩ := hcy.out W2 (Only.refl _ _)
  go_enter Tryz.func96, Tryz.ntmps96
  go_upto_region 1 with fail
  rw [← hq'.out]
  rw [← hW2'.out]
  go_wp2_with fail
  refine (ch1.out W2).mono ?_
  rintro e w3 ⟨rfl, ho⟩
  have hf := Lib.hid (hfin.out w3 ho)
  clear ho d0 d1 d2 d3 d4 d5 d6 d7 d8 d9 dl
  go_wp2
  exact hf.out
set_option maxRecDepth 100000 in
theorem higher_any {w : World} {c : ConfV} {ts : List TaskV} (hT : TasksAt w c.ta ts) (hs9 : c.ta.n ≤ 1000000) {i : Nat} {ti : TaskV} (hi : ts[i]? = some ti) :
    Calls Tryz.prog 70 #[c.val, .int .i64 (i : Int)] w (RowEnd w (thoseU highB ts ti.p c.ta.n)) := by
  obtain ⟨q, hq⟩ : ∃ q, q = w.heap.size := ⟨_, rfl⟩
  obtain ⟨W2, hW2⟩ : ∃ W2, W2 = w.alloc (.cells c.cells.toArray 27) := ⟨_, rfl⟩
  have hO2 : Only (fun _ => False) w W2 := by rw [hW2]; exact (Only.refl _ w).alloc _
  have b0 : W2.heap[q]? = some (.cells c.cells.toArray 27 (0, 0)) := by rw [hW2]; exact heap_new_at _ _ hq.symm
  have hq' := Lib.hid hq
  have hcy := Lib.hid (fun W (ho : Only (fun _ => False) W2 W) => cyv_of (ho.heap b0 (fun h => h)))
  obtain ⟨cv, hcv⟩ : ∃ cv, cv = c.val := ⟨_, rfl⟩
  obtain ⟨L, hL⟩ : ∃ L : List Nat, L = thoseU highB ts ti.p c.ta.n := ⟨_, rfl⟩
  have ch1 := Lib.hid (show Calls Tryz.prog 96 #[cv, .int .i64 (i : Int), .func (.func 97) #[] #[]] W2 (RowEnd W2 L) from by rw [hcv, hL]; exact those_high (hT.new hO2) hs9 hi)
  rw [show RowEnd w (thoseU highB ts ti.p c.ta.n) = RowEnd w L from by rw [hL]]
  unfold RowEnd at ch1
  obtain ⟨m, hm⟩ : ∃ m, m = L.length := ⟨_, rfl⟩
  rw [← hm] at ch1
  obtain ⟨Z, hZ⟩ : ∃ Z, Z = RowEnd w L := ⟨_, rfl⟩
  rw [← hZ]
  have hfin := Lib.hid (fun W (ho : Only (fun _ => False) W2 W) (p : Option Addr) (cp : Nat) (hh : Option Nat) (hW : Win W 3 1 (.slice p m cp) hh m (dat L)) (hf : ∀ b, hh = some b → W2.heap.size ≤ b) => show Z (.returned (.slice p m cp)) W from by
    rw [hZ]
    subst hm
    exact ⟨p, cp, hh, rfl, hW, fun b hb => Nat.le_trans hO2.size (hf b hb), hO2.trans' ho⟩)
  rw [← hcv]
  unfold ConfV.val at hcv
  subst hcv
  unfold CYv at hcy
  unfold ConfV.cells at hW2
  have hW2' := Lib.hid hW2
  clear hZ hq hO2 b0 hW2 hL hm hT hi
  obtain ⟨c0, wy, h, mi, ⟨mA, mn, mc⟩, g, ⟨cA, cn, cc⟩, ⟨eA, en, ec⟩, ⟨tA, tn, tc⟩, ⟨lA, ln, lc⟩⟩ := c
  dsimp only at *
  obtain ⟨d0, d1, d2, d3, d4, d5, d6, d7, d8, d9, dl⟩ := hcy.out W2 (Only.refl _ _)
  go_enter Tryz.func70, Tryz.ntmps70
  go_upto_region 1 with fail
  rw [← hq'.out]
  rw [← hW2'.out]
  go_wp2_with fail
  refine ch1.out.mono ?_
  rintro e w3 ⟨p, cp, hh, rfl, hW, hf, ho⟩
  have hf := Lib.hid (hfin.out w3 ho p cp hh hW hf)
  clear ho hW d0 d1 d2 d3 d4 d5 d6 d7 d8 d9 dl ch1 hfin
  go_wp2
  exact hf.out
set_option maxRecDepth 100000 in
theorem higher_none {w : World} {c : ConfV} {z : Int} (hz : hasT c.ta.n z = false) :
    Calls Tryz.prog 70 #[c.val, .int .i64 z] w (fun e w' => e = .returned (.slice none 0 0) ∧ Only (fun _ => False) w w') := by
  obtain ⟨q, hq⟩ : ∃ q, q = w.heap.size := ⟨_, rfl⟩
  obtain ⟨W2, hW2⟩ : ∃ W2, W2 = w.alloc (.cells c.cells.toArray 27) := ⟨_, rfl⟩
  have hO2 : Only (fun _ => False) w W2 := by rw [hW2]; exact (Only.refl _ w).alloc _
  have b0 : W2.heap[q]? = some (.cells c.cells.toArray 27 (0, 0)) := by rw [hW2]; exact heap_new_at _ _ hq.symm
  have hq' := Lib.hid hq
  have hcy := Lib.hid (fun W (ho : Only (fun _ => False) W2 W) => cyv_of (ho.heap b0 (fun h => h)))
  obtain ⟨cv, hcv⟩ : ∃ cv, cv = c.val := ⟨_, rfl⟩
  have ch1 := Lib.hid (show Calls Tryz.prog 96 #[cv, .int .i64 z, .func (.func 97) #[] #[]] W2 (fun e w' => e = .returned (.slice none 0 0) ∧ Only (fun _ => False) W2 w') from by rw [hcv]; exact those_high_none hz)
  obtain ⟨Z, hZ⟩ : ∃ Z : Ending → World → Prop, Z = (fun e w' => e = .returned (.slice none 0 0) ∧ Only (fun _ => False) w w') := ⟨_, rfl⟩
  rw [← hZ]
  have hfin := Lib.hid (fun W (ho : Only (fun _ => False) W2 W) => show Z (.returned (.slice none 0 0)) W from by rw [hZ]; exact ⟨rfl, hO2.trans' ho⟩)
  rw [← hcv]
  unfold ConfV.val at hcv
  subst hcv
  unfold CYv at hcy
  unfold ConfV.cells at hW2
  have hW2' := Lib.hid hW2
  clear hZ hq hO2 b0 hW2 hz
  obtain ⟨c0, wy, h, mi, ⟨mA, mn, mc⟩, g, ⟨cA, cn, cc⟩, ⟨eA, en, ec⟩, ⟨tA, tn, tc⟩, ⟨lA, ln, lc⟩⟩ := c
  dsimp only at *
  obtain ⟨d0, d1, d2, d3, d4, d5, d6, d7, d8, d9, dl⟩ := hcy.out W2 (Only.refl _ _)
  go_enter Tryz.func70, Tryz.ntmps70
  go_upto_region 1 with fail
  rw [← hq'.out]
  rw [← hW2'.out]
  go_wp2_with fail
  refine ch1.out.mono ?_
  rintro e w3 ⟨rfl, ho⟩
  have hf := Lib.hid (hfin.out w3 ho)
  clear ho d0 d1 d2 d3 d4 d5 d6 d7 d8 d9 dl ch1 hfin
  go_wp2
  exact hf.out
/-- The greatest of some numbers. -/
def dlyU (f : Nat → Nat) (L : List Nat) : Nat := L.foldl (fun g x => max g (f x)) 0
theorem dlyU_snoc {f : Nat → Nat} {L : List Nat} {j x : Nat} (h : L[j]? = some x) : dlyU f (L.take (j + 1)) = max (dlyU f (L.take j)) (f x) := by
  unfold dlyU
  rw [Bch.take_snoc h, List.foldl_append]
  rfl
theorem dlyU_le {f : Nat → Nat} (hf : ∀ i, f i ≤ 18446744073709551615) (L : List Nat) : dlyU f L ≤ 18446744073709551615 := by
  have key : ∀ (L : List Nat) (s : Nat), s ≤ 18446744073709551615 → L.foldl (fun g x => max g (f x)) s ≤ 18446744073709551615 := by
    intro L
    induction L with
    | nil => intro s h; exact h
    | cons x L ih => intro s h; exact ih _ (Nat.max_le.2 ⟨h, hf x⟩)
  exact key L 0 (by omega)
def blkI (c : ConfV) (d : ConfL) (pl : Tks) (own : Int) (k : Nat) : Nat :=
  match pl[k]? with
  | some (t, l) => blkU (wrsZ l c.h c.mi).toNat (lonZ t.th (ceZ d.ce) c.ce.n l c.h c.mi own).toNat t.th t.fl own
  | none => 0
theorem blkI_le {c : ConfV} {d : ConfL} {pl : Tks} (hl9 : ∀ (k : Nat) t l, pl[k]? = some (t, l) → l.length ≤ 1000) (own : Int) (k : Nat) : blkI c d pl own k ≤ 18446744073709551615 := by
  unfold blkI
  split
  · next t l h =>
    have h1 := wrsZ_le (h := c.h) (mi := c.mi) (hl9 k t l h)
    exact blkU_le (by omega)
  · omega
set_option maxRecDepth 100000 in
set_option maxHeartbeats 4000000 in
theorem delay_any {w : World} {c : ConfV} {d : ConfL} {pl : Tks} (hC : ConfIn w c d pl) (hen : c.ce.n ≤ 4096) (htn : c.ta.n ≤ 1000000) (hl9 : ∀ (k : Nat) t l, pl[k]? = some (t, l) → l.length ≤ 1000) {i : Nat} {ti : TaskV} (hi : pl.ts[i]? = some ti) :
    Calls Tryz.prog 76 #[c.val, .int .i64 (i : Int)] w (GrowU (dlyU (blkI c d pl ti.p) (thoseU lowB pl.ts ti.p c.ta.n)) w) := by
  obtain ⟨q, hq⟩ : ∃ q, q = w.heap.size := ⟨_, rfl⟩
  obtain ⟨W2, hW2⟩ : ∃ W2, W2 = w.alloc (.cells c.cells.toArray 27) := ⟨_, rfl⟩
  have hO2 : Only (fun _ => False) w W2 := by rw [hW2]; exact (Only.refl _ w).alloc _
  have b0 : W2.heap[q]? = some (.cells c.cells.toArray 27 (0, 0)) := by rw [hW2]; exact heap_new_at _ _ hq.symm
  have hq' := Lib.hid hq
  have hcy := Lib.hid (fun W (ho : Only (fun _ => False) W2 W) => cyv_of (ho.heap b0 (fun h => h)))
  obtain ⟨cv, hcv⟩ : ∃ cv, cv = c.val := ⟨_, rfl⟩
  have clow := Lib.hid (show Calls Tryz.prog 109 #[cv, .int .i64 (i : Int)] W2 (RowEnd W2 (thoseU lowB pl.ts ti.p c.ta.n)) from by rw [hcv]; exact lower_any (hC.new hO2).t htn hi)
  obtain ⟨L, hL⟩ : ∃ L, L = thoseU lowB pl.ts ti.p c.ta.n := ⟨_, rfl⟩
  obtain ⟨f, hf⟩ : ∃ f, f = blkI c d pl ti.p := ⟨_, rfl⟩
  have hLm : ∀ x ∈ L, x < c.ta.n := fun x hx => by rw [hL] at hx; exact (thoseU_mem.1 hx).1
  have hL9 : L.length ≤ 1000000 := by rw [hL]; exact Nat.le_trans (thoseU_len _ _ _ _) htn
  have hf9 := Lib.hid (fun k => show f k ≤ 18446744073709551615 from by rw [hf]; exact blkI_le hl9 _ k)
  have cblk := Lib.hid (fun W (ho : Only (fun _ => False) W2 W) (x : Nat) (hx : x ∈ L) => show Calls Tryz.prog 110 #[cv, .int .i64 (x : Int), .int .i64 (i : Int)] W (GrowU (f x) W) from by
    have hxn := hLm x hx
    obtain ⟨⟨t, l⟩, hxp⟩ : ∃ y, pl[x]? = some y := ⟨_, List.getElem?_eq_getElem (by rw [ts_len hC]; exact hxn)⟩
    have hfx : f x = blkU (wrsZ l c.h c.mi).toNat (lonZ t.th (ceZ d.ce) c.ce.n l c.h c.mi ti.p).toNat t.th t.fl ti.p := by rw [hf]; unfold blkI; rw [hxp]
    rw [hcv, hfx]
    exact blocking_any (hC.new (hO2.trans' ho)) hen hxp hi (hl9 x t l hxp) htn)
  rw [← hL] at clow ⊢
  rw [← hf]
  unfold RowEnd at clow
  obtain ⟨m, hm⟩ : ∃ m, m = L.length := ⟨_, rfl⟩
  rw [← hm] at clow hL9
  have hm' := Lib.hid hm
  have hT0 := Lib.hid (show dlyU f (L.take 0) = 0 from rfl)
  obtain ⟨Z, hZ⟩ : ∃ Z, Z = GrowU (dlyU f L) w := ⟨_, rfl⟩
  rw [← hZ]
  have hfin := Lib.hid (fun W (ho : Only (fun _ => False) W2 W) => show Z (.returned (U (dlyU f L))) W from by rw [hZ]; exact ⟨rfl, hO2.trans' ho⟩)
  rw [← hcv]
  unfold ConfV.val at hcv
  subst hcv
  unfold CYv at hcy
  unfold ConfV.cells at hW2
  have hW2' := Lib.hid hW2
  clear hC hi hZ hq hO2 b0 hW2 hL hf hLm hm hl9
  obtain ⟨c0, wy, h, mi, ⟨mA, mn, mc⟩, g, ⟨cA, cn, cc⟩, ⟨eA, en, ec⟩, ⟨tA, tn, tc⟩, ⟨lA, ln, lc⟩⟩ := c
  dsimp only at *
  obtain ⟨d0, d1, d2, d3, d4, d5, d6, d7, d8, d9, dl⟩ := hcy.out W2 (Only.refl _ _)
  go_enter Tryz.func76, Tryz.ntmps76
  go_upto_region 2 with fail
  rw [← hq'.out]
  rw [← hW2'.out]
  go_wp2_with fail
  refine clow.out.mono ?_
  rintro e w3 ⟨p, cp, hh, rfl, hW, -, ho⟩
  have hO3 := Lib.hid ho
  have hW' := Lib.hid (fun W (ho : Only (fun _ => False) w3 W) => hW.kept ho (fun _ _ h => h))
  clear ho hW d0 d1 d2 d3 d4 d5 d6 d7 d8 d9 dl clow
  go_wp2
  go_loopw [5, 7, 12] (fun u5 _ i wr => ∃ k : Nat, i = .int .i64 k ∧ k ≤ m ∧ u5 = U (dlyU f (L.take k)) ∧ Hid (Only (fun _ => False) w3 wr)) (fun _ _ i _ => m - (intOf i).toNat)
  case atStart => exact ⟨0, rfl, Nat.zero_le _, by rw [hT0.out]; rfl, Lib.hid (Only.refl _ _)⟩
  case round =>
    obtain ⟨k, rfl, hk, rfl, hO⟩ := hrel
    obtain ⟨ws, hws⟩ : ∃ ws : World, ws = wr := ⟨_, rfl⟩
    subst hws
    have hOs := Lib.hid (hO3.out.trans' hO.out)
    obtain ⟨S, hS⟩ : ∃ S, S = dlyU f (L.take k) := ⟨_, rfl⟩
    rw [← hS]
    by_cases hkm : k < m
    · have hkm' : (k : Int) < m := by omega
      obtain ⟨x, hx⟩ : ∃ x, L[k]? = some x := ⟨_, List.getElem?_eq_getElem (by have := hm'.out; omega)⟩
      obtain ⟨gg, off, rfl, cx, cxl⟩ := cell_at (hW'.out ws hO.out) (dat_at hx)
      have hsu := Lib.hid (show dlyU f (L.take (k + 1)) = max S (f x) by rw [dlyU_snoc hx, hS])
      have q1 := Lib.hid (cblk.out ws hOs.out x (List.mem_of_getElem? hx))
      obtain ⟨F, hF⟩ : ∃ F, F = f x := ⟨_, rfl⟩
      rw [← hF] at hsu q1
      clear hx hS hF
      obtain ⟨d0, d1, d2, d3, d4, d5, d6, d7, d8, d9, dl⟩ := hcy.out ws hOs.out
      go_wp2_with fail
      refine q1.out.mono ?_
      rintro e w4 ⟨rfl, ho⟩
      have hO4 := Lib.hid (hO.out.trans' ho)
      clear ho q1 cx cxl d0 d1 d2 d3 d4 d5 d6 d7 d8 d9 dl
      by_cases hSF : S ≤ F
      · have h1 : (S : Int) ≤ F := by omega
        have hsu2 := Lib.hid (hsu.out.trans (Nat.max_eq_right hSF))
        clear hSF
        by_cases h2 : (S : Int) < F
        · go_wp2
          go_roundw
          case rel => exact ⟨k + 1, by go_num, by omega, by rw [hsu2.out], hO4⟩
          case measure => simp [intOf]; omega
        · obtain rfl : S = F := by omega
          go_wp2
          go_roundw
          case rel => exact ⟨k + 1, by go_num, by omega, by rw [hsu2.out], hO4⟩
          case measure => simp [intOf]; omega
      · have h1 : ¬ (S : Int) < F := by omega
        have h2 : (F : Int) < S := by omega
        have hsu2 := Lib.hid (hsu.out.trans (Nat.max_eq_left (by omega)))
        clear hSF
        go_wp2
        go_roundw
        case rel => exact ⟨k + 1, by go_num, by omega, by rw [hsu2.out], hO4⟩
        case measure => simp [intOf]; omega
    · obtain rfl : k = m := by omega
      have hf2 := Lib.hid (show Z (.returned (U S)) ws from by rw [hS, List.take_of_length_le (by have := hm'.out; omega)]; exact hfin.out ws hOs.out)
      clear hS
      go_wp2
      exact hf2.out
set_option maxRecDepth 100000 in
theorem delay_none {w : World} {c : ConfV} {z : Int} (hz : hasT c.ta.n z = false) : Calls Tryz.prog 76 #[c.val, .int .i64 z] w (GrowU 0 w) := by
  obtain ⟨q, hq⟩ : ∃ q, q = w.heap.size := ⟨_, rfl⟩
  obtain ⟨W2, hW2⟩ : ∃ W2, W2 = w.alloc (.cells c.cells.toArray 27) := ⟨_, rfl⟩
  have hO2 : Only (fun _ => False) w W2 := by rw [hW2]; exact (Only.refl _ w).alloc _
  have b0 : W2.heap[q]? = some (.cells c.cells.toArray 27 (0, 0)) := by rw [hW2]; exact heap_new_at _ _ hq.symm
  have hq' := Lib.hid hq
  have hcy := Lib.hid (fun W (ho : Only (fun _ => False) W2 W) => cyv_of (ho.heap b0 (fun h => h)))
  obtain ⟨cv, hcv⟩ : ∃ cv, cv = c.val := ⟨_, rfl⟩
  have clow := Lib.hid (show Calls Tryz.prog 109 #[cv, .int .i64 z] W2 (fun e w' => e = .returned (.slice none 0 0) ∧ Only (fun _ => False) W2 w') from by rw [hcv]; exact lower_none hz)
  obtain ⟨Z, hZ⟩ : ∃ Z, Z = GrowU 0 w := ⟨_, rfl⟩
  rw [← hZ]
  have hfin := Lib.hid (fun W (ho : Only (fun _ => False) W2 W) => show Z (.returned (U 0)) W from by rw [hZ]; exact ⟨rfl, hO2.trans' ho⟩)
  rw [← hcv]
  unfold ConfV.val at hcv
  subst hcv
  unfold CYv at hcy
  unfold ConfV.cells at hW2
  have hW2' := Lib.hid hW2
  clear hZ hq hO2 b0 hW2 hz
  obtain ⟨c0, wy, h, mi, ⟨mA, mn, mc⟩, g, ⟨cA, cn, cc⟩, ⟨eA, en, ec⟩, ⟨tA, tn, tc⟩, ⟨lA, ln, lc⟩⟩ := c
  dsimp only at *
  obtain ⟨d0, d1, d2, d3, d4, d5, d6, d7, d8, d9, dl⟩ := hcy.out W2 (Only.refl _ _)
  go_enter Tryz.func76, Tryz.ntmps76
  go_upto_region 2 with fail
  rw [← hq'.out]
  rw [← hW2'.out]
  go_wp2_with fail
  refine clow.out.mono ?_
  rintro e w3 ⟨rfl, ho⟩
  have hO3 := Lib.hid ho
  clear ho d0 d1 d2 d3 d4 d5 d6 d7 d8 d9 dl clow
  go_wp2
  go_loopw [5, 12] (fun u5 i wr => u5 = U 0 ∧ i = .int .i64 0 ∧ Hid (Only (fun _ => False) w3 wr)) (fun _ _ _ => 0)
  case atStart => exact ⟨rfl, rfl, Lib.hid (Only.refl _ _)⟩
  case round =>
    obtain ⟨rfl, rfl, hO⟩ := hrel
    have hf2 := Lib.hid (hfin.out wr (hO3.out.trans' hO.out))
    go_wp2
    exact hf2.out
end Pre
end Go.Proofs.YtlbinlhaejhobaaGreatDoor
