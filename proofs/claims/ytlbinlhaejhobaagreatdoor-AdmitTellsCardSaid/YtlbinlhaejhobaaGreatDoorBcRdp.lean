/- chain: the reference's Depth. -/
import Derived.Test.YtlbinlhaejhobaaGreatDoorBcRca26
namespace Go.Proofs.YtlbinlhaejhobaaGreatDoor
namespace Bch
open Go Go.RowKit Go.Maps Go.Shelf
theorem depth_app (F : Nat → Int) : ∀ (l m : List Nat), Chn.depth F (l ++ m) = Chn.depth F l + Chn.depth F m
  | [], m => by
    show Chn.depth F m = 0 + Chn.depth F m
    omega
  | x :: l, m => by
    show F x + Chn.depth F (l ++ m) = F x + Chn.depth F l + Chn.depth F m
    rw [depth_app F l m]
    omega
theorem depth_bd {F : Nat → Int} : ∀ {l : List Nat}, (∀ x ∈ l, 0 ≤ F x ∧ F x ≤ 1048576) → 0 ≤ Chn.depth F l ∧ Chn.depth F l ≤ l.length * 1048576
  | [], _ => by
    show (0 : Int) ≤ 0 ∧ (0 : Int) ≤ ((0 : Nat) : Int) * 1048576
    omega
  | x :: l, h => by
    have h1 := h x (by simp)
    have h2 := depth_bd (l := l) (fun y hy => h y (by simp [hy]))
    show 0 ≤ F x + Chn.depth F l ∧ F x + Chn.depth F l ≤ ((l.length + 1 : Nat) : Int) * 1048576
    push_cast
    omega
set_option maxRecDepth 100000 in
set_option maxHeartbeats 4000000 in
theorem depth_any {w : World} {c : ConfV} {ts : List TaskV} (hT : TasksAt w c.ta ts) (hn : c.ta.n ≤ 12) {A : Option Addr} {m cap : Nat} {hh : Option Nat} {L : List Nat} (hW : Win w 3 1 (.slice A m cap) hh m (dat L)) (hl : L.length = m) (hm : m ≤ 1000) (hL : ∀ x ∈ L, x < ts.length) (hF : ∀ i, i < ts.length → 0 ≤ frm ts i ∧ frm ts i ≤ 1048576) :
    Calls Tryz.prog 18 #[c.val, .slice A m cap] w (GrowI (Chn.depth (frm ts) L) w) := by
  have hO := (Only.refl (fun _ => False) w).alloc (.cells c.cells.toArray 27)
  have hB := heap_new_at w (.cells c.cells.toArray 27) rfl
  obtain ⟨W1, hW1⟩ : ∃ W1, W1 = w.alloc (.cells c.cells.toArray 27) := ⟨_, rfl⟩
  rw [← hW1] at hB hO
  obtain ⟨q, hq⟩ : ∃ q, q = w.heap.size := ⟨_, rfl⟩
  rw [← hq] at hB
  have hb8 := row_cell hB (i := 8) rfl
  have hbl := row_lt hB
  have hlen := Lib.hid hT.len
  have hT1 := Lib.hid (hT.new hO)
  have hWk := Lib.hid (hW.kept hO (fun _ _ h => h))
  have hl' := Lib.hid hl
  have hL' := Lib.hid hL
  have hF' := Lib.hid hF
  obtain ⟨Z, hZ⟩ : ∃ Z, Z = GrowI (Chn.depth (frm ts) L) w := ⟨_, rfl⟩
  rw [← hZ]
  have hZ' := Lib.hid hZ
  have hO' := Lib.hid hO
  have hq' := Lib.hid hq
  rw [show c.val = .agg #[.int .i64 c.s, .int .i64 c.wy, .int .i64 c.h, .int .i64 c.mi, .slice c.mb.A c.mb.n c.mb.cap, .int .i64 c.g, .slice c.cn.A c.cn.n c.cn.cap, .slice c.ce.A c.ce.n c.ce.cap, .slice c.ta.A c.ta.n c.ta.cap, .slice c.li.A c.li.n c.li.cap] from rfl]
  unfold ConfV.cells at hW1
  have hW1' := Lib.hid hW1
  clear hT hW hl hL hF hZ hO hq hB hW1
  obtain ⟨s0, wy0, h0, mi0, ⟨mA, mn, mc⟩, g0, ⟨cA, cn, cc⟩, ⟨eA, en, ec⟩, ⟨tA, tn, tc⟩, ⟨lA, ln, lc⟩⟩ := c
  dsimp only at *
  go_enter Tryz.func18, Tryz.ntmps18
  go_upto_region 2 with fail
  rw [← hW1'.out]
  rw [← hq'.out]
  go_wp2
  go_loopw [5, 7, 10] (fun u5 _ i wr => ∃ k : Nat, i = .int .i64 k ∧ k ≤ m ∧ u5 = .int .i64 (Chn.depth (frm ts) (L.take k)) ∧ W1 = wr) (fun _ _ i _ => m - (intOf i).toNat)
  case atStart => exact ⟨0, rfl, Nat.zero_le _, rfl, rfl⟩
  case round =>
    obtain ⟨k, rfl, hk, rfl, rfl⟩ := hrel
    obtain ⟨D, hD⟩ : ∃ D, D = Chn.depth (frm ts) (L.take k) := ⟨_, rfl⟩
    rw [← hD]
    by_cases hkm : k < m
    · have hkm' : (k : Int) < m := by omega
      obtain ⟨x, hx⟩ : ∃ x, L[k]? = some x := ⟨_, List.getElem?_eq_getElem (by have := hl'.out; omega)⟩
      have hxl := hL'.out x (List.mem_of_getElem? hx)
      have hxn : (x : Int) < tn := by have := hlen.out; omega
      obtain ⟨gl, loff, rfl, cx, cxl⟩ := cell_at hWk.out (dat_at hx)
      obtain ⟨t, ht⟩ : ∃ t, ts[x]? = some t := ⟨_, List.getElem?_eq_getElem hxl⟩
      obtain ⟨b, off, rfl, hbl2, hC⟩ := hT1.out.at_ x t ht
      have c4 := hC.c4
      have hfx := hF'.out x hxl
      rw [frm_at ht] at hfx
      have hbd := depth_bd (F := frm ts) (l := L.take k) (fun y hy => hF'.out y (hL'.out y (List.mem_of_mem_take hy)))
      rw [← hD, List.length_take] at hbd
      have hb2 : D ≤ 1048576000 := by have := hbd.2; omega
      have hb1 := hbd.1
      have hwr : IntKind.i64.wrap (D + t.fr) = D + t.fr := IntWalk.i64_in _ (by omega)
      have hnx := Lib.hid (show Chn.depth (frm ts) (L.take (k + 1)) = D + t.fr by
        rw [take_snoc hx, depth_app, ← hD]
        show D + (frm ts x + 0) = D + t.fr
        rw [frm_at ht]
        omega)
      clear hx ht hC hbd hD
      go_wp2
      go_roundw
      case rel => exact ⟨k + 1, by go_num, by omega, by rw [hnx.out], trivial⟩
      case measure => simp [intOf]; omega
    · obtain rfl : k = m := by omega
      have he : D = Chn.depth (frm ts) L := by rw [hD, List.take_of_length_le (by have := hl'.out; omega)]
      have hfin := Lib.hid (show Z (.returned (.int .i64 D)) W1 from by rw [hZ'.out, he]; exact ⟨rfl, hO'.out⟩)
      clear he hD
      go_wp2
      exact hfin.out
end Bch
end Go.Proofs.YtlbinlhaejhobaaGreatDoor
