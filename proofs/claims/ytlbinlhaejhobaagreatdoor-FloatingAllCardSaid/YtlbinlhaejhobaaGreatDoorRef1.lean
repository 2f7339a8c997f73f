/- The document's layer 28: Cost, Short. -/
import Derived.Test.YtlbinlhaejhobaaGreatDoorAdm4
import Derived.Test.YtlbinlhaejhobaaGreatDoorPH
namespace Go.Proofs.YtlbinlhaejhobaaGreatDoor
namespace Adm
open Go Go.RowKit Rca Sct Lin Lck Cst Rld Pre
open Bch (U sA sC sM sA_le sC_le sM_le GrowU Ld LRow LB orU)

set_option maxRecDepth 100000 in
theorem rcost_any {w : World} {c : ConfV} {d : ConfL} {pl : Tks} (hC : ConfIn w c d pl) (hF : Fin0.Fine c d pl) {i : Nat} (hi : i < c.ta.n) :
    Calls Tryz.prog 23 #[c.val, .int .i64 (i : Int)] w (GrowU (cosI c pl i) w) := by
  obtain ⟨q, hq⟩ : ∃ q, q = w.heap.size := ⟨_, rfl⟩
  obtain ⟨W2, hW2⟩ : ∃ W2, W2 = w.alloc (.cells c.cells.toArray 27) := ⟨_, rfl⟩
  have hO2 : Only (fun _ => False) w W2 := by rw [hW2]; exact (Only.refl _ w).alloc _
  have b0 : W2.heap[q]? = some (.cells c.cells.toArray 27 (0, 0)) := by rw [hW2]; exact heap_new_at _ _ hq.symm
  have hq' := Lib.hid hq
  have hcy := Lib.hid (fun W (ho : Only (fun _ => False) W2 W) => cyv_of (ho.heap b0 (fun h => h)))
  obtain ⟨cv, hcv⟩ : ∃ cv, cv = c.val := ⟨_, rfl⟩
  obtain ⟨t, l, hp, hts, hl9, -⟩ := fine_at hC hF hi
  rw [cosI_at hp]
  have hlt : l.length = t.o.n := (hC.p i t l hp).2.1
  have cworst := Lib.hid (fun W (ho : Only (fun _ => False) W2 W) => rsum_any (cap := t.o.cap) ((hC.new (hO2.trans' ho)).p i t l hp).1 hlt (by omega) c.s c.wy c.h c.mi)
  rw [show sumU (costK l c.h c.mi) t.o.n = wrsZ l c.h c.mi by unfold wrsZ; rw [hlt]] at cworst
  obtain ⟨hz0, hz9⟩ := wrsZ_le (h := c.h) (mi := c.mi) (show l.length ≤ 1000 by omega)
  obtain ⟨z, hz⟩ : ∃ z, z = wrsZ l c.h c.mi := ⟨_, rfl⟩
  rw [← hz] at cworst hz0 hz9 ⊢
  obtain ⟨wr, hwr⟩ : ∃ s, s = z.toNat := ⟨_, rfl⟩
  rw [← hwr]
  obtain rfl : z = (wr : Int) := by omega
  have hw9 : IntKind.u64.wrap (wr : Int) = (wr : Int) := by rw [IntKind.wrap_u64]; omega
  have hta := Lib.hid (fun W (ho : Only (fun _ => False) W2 W) => (hC.new (hO2.trans' ho)).t.at_ i t hts)
  obtain ⟨Z, hZ⟩ : ∃ Z, Z = GrowU wr w := ⟨_, rfl⟩
  rw [← hZ]
  have hfin := Lib.hid (fun W (ho : Only (fun _ => False) W2 W) => show Z (.returned (U wr)) W from by rw [hZ]; exact ⟨rfl, hO2.trans' ho⟩)
  have hin : (i : Int) < c.ta.n := by omega
  rw [← hcv]
  unfold ConfV.val at hcv
  subst hcv
  unfold CYv at hcy
  unfold ConfV.cells at hW2
  have hW2' := Lib.hid hW2
  clear hZ hq hO2 b0 hW2 hC hF hp hts hlt hl9 hwr hz hi
  obtain ⟨c0, wy, h, mi, ⟨mA, mn, mc⟩, g, ⟨cA, cn, cc⟩, ⟨eA, en, ec⟩, ⟨tA, tn, tc⟩, ⟨lA, ln, lc⟩⟩ := c
  dsimp only at *
  obtain ⟨d0, d1, d2, d3, d4, d5, d6, d7, d8, d9, dl⟩ := hcy.out W2 (Only.refl _ _)
  obtain ⟨b, off, hA, hb, hCe⟩ := hta.out W2 (Only.refl _ _)
  have f6 := hCe.c6
  subst hA
  have p0 := wd_cell d0
  have p1 := wd_cell d1
  have p2 := wd_cell d2
  have p3 := wd_cell d3
  have p8 := wd_cell d8
  have g6 := wd_cell f6
  have q1 := Lib.hid (fun (x : Wd W2) => Calls.wd (x := x) (cworst.out x.W x.ok))
  have hex := wd_ex W2
  clear hCe
  go_enter Tryz.func23, Tryz.ntmps23
  go_upto_region 1 with fail
  rw [← hq'.out]
  rw [← hW2'.out]
  refine wp_region_wd (by kernel_rfl) (by kernel_rfl) ?_
  repeat (go_big_quiet_step (first | (go_at_call 58; with_reducible exact q1.out _)))
  refine wpQuiet_nil ?_
  rintro _ ⟨v, rfl⟩
  have hf := Lib.hid (hfin.out v.W v.ok)
  go_wp2
  exact hf.out
end Adm
end Go.Proofs.YtlbinlhaejhobaaGreatDoor
