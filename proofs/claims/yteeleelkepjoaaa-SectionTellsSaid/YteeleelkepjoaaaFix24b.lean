/- The fixed calls of layer 24's laws: the walk. -/
import Derived.Test.YteeleelkepjoaaaFix24
namespace Go.Proofs.Yteeleelkepjoaaa
namespace Sct
open Go Go.RowKit Lin Lck Cst Srt

set_option maxRecDepth 100000 in
set_option maxHeartbeats 4000000 in
theorem fixed24_any (w : World) : Calls Try.prog 14 #[] w (GrowB true w) := by
  go_enter Try.func14, Try.ntmps14
  go_wp2_with fail
  refine (one_any _).mono ?_
  rintro e w1 ⟨X1, rfl, hc1, ho1⟩
  have hc1' := Lib.hid (one_levels hc1)
  unfold oneV at hc1'
  have hO1 := Lib.hid ho1
  clear hc1 ho1
  go_wp2_with fail
  refine hc1'.out.mono ?_
  rintro e w2 ⟨G, rfl, _, hG, ho2⟩
  have hO2 := Lib.hid (hO1.out.trans' ho2)
  have hG2 := Lib.hid hG
  rw [show oneO.length = 6 from rfl] at hG2 ⊢
  clear hc1' hO1 hG ho2
  go_wp2_with fail
  refine (one_any _).mono ?_
  rintro e w3 ⟨X3, rfl, hc3, ho3⟩
  have hc3' := Lib.hid (one_reach hc3)
  rw [rc] at hc3'
  unfold oneV at hc3'
  have hO3 := Lib.hid (hO2.out.trans' ho3)
  have hG3 := Lib.hid (ho3.heap hG2.out (fun h => h))
  clear hc3 ho3 hO2 hG2
  go_wp2_with fail
  refine hc3'.out.mono ?_
  rintro e w4 ⟨p4, c4, h4, rfl, hW4, _, ho4⟩
  have hO4 := Lib.hid (hO3.out.trans' ho4)
  have hG4 := Lib.hid (ho4.heap hG3.out (fun h => h))
  rw [show ([7, 64] : List Int).length = 2 from rfl] at hW4 ⊢
  obtain ⟨g, off, cap, rfl, hv, _, _, hgl, hgc, _⟩ := hW4.at_ (by omega)
  cases hv
  have r0 : w4.cell? ⟨g, off, none⟩ = some (.int .i64 7) := hgc 0 _ rfl
  have r1 : w4.cell? ⟨g, off + 1, none⟩ = some (.int .i64 64) := hgc 1 _ rfl
  have p0 := row_cell hG4.out (i := 1 * 2) (pairs_at (th := 2) (z := ceZ [7]) (n := 1) (l := oneO) (m := 6) (i := 1) (by omega)).1
  have p1 := row_cell hG4.out (i := 1 * 2 + 1) (pairs_at (th := 2) (z := ceZ [7]) (n := 1) (l := oneO) (m := 6) (i := 1) (by omega)).2
  rw [lv1] at p0
  rw [lv2] at p1
  have p0' : w4.cell? ⟨G, 2, none⟩ = some (.int .i64 2) := p0
  have p1' : w4.cell? ⟨G, 3, none⟩ = some (.int .i64 64) := p1
  have hGl := row_lt hG4.out
  have hkeepr := Lib.hid (fun W (h : Only (fun _ => False) w4 W) => show W.cell? ⟨g, off, none⟩ = some (.int .i64 7) ∧ W.cell? ⟨g, off + 1, none⟩ = some (.int .i64 64) ∧ g < W.heap.size from ⟨h.cell r0 (fun h => h), h.cell r1 (fun h => h), Nat.lt_of_lt_of_le hgl h.size⟩)
  clear hc3' hO3 hG3 ho4 hW4 hgc p0 p1 hG4 r0 r1 hgl
  go_wp2_with fail
  refine (one_any _).mono ?_
  rintro e w5 ⟨X5, rfl, hc5, ho5⟩
  have hc5' := Lib.hid (one_longest hc5 64)
  rw [lo64] at hc5'
  unfold oneV at hc5'
  have hO5 := Lib.hid (hO4.out.trans' ho5)
  have hk5 := Lib.hid ho5
  clear hc5 ho5 hO4 p0' p1' hGl
  go_wp2_with fail
  refine hc5'.out.mono ?_
  rintro e w6 ⟨rfl, ho6⟩
  have hO6 := Lib.hid (hO5.out.trans' ho6)
  have hk6 := Lib.hid (hk5.out.trans' ho6)
  clear hc5' ho6 hO5 hk5
  go_wp2_with fail
  refine (one_any _).mono ?_
  rintro e w7 ⟨X7, rfl, hc7, ho7⟩
  have hc7' := Lib.hid (one_longest hc7 7)
  rw [lo7] at hc7'
  unfold oneV at hc7'
  have hO7 := Lib.hid (hO6.out.trans' ho7)
  have hk7 := Lib.hid (hk6.out.trans' ho7)
  clear hc7 ho7 hO6 hk6
  go_wp2_with fail
  refine hc7'.out.mono ?_
  rintro e w8 ⟨rfl, ho8⟩
  have hO8 := Lib.hid (hO7.out.trans' ho8)
  have hk8 := Lib.hid (hk7.out.trans' ho8)
  clear hc7' ho8 hO7 hk7
  go_wp2_with fail
  refine (one_any _).mono ?_
  rintro e w9 ⟨X9, rfl, hc9, ho9⟩
  have hc9' := Lib.hid (one_longest hc9 2)
  rw [lo2] at hc9'
  unfold oneV at hc9'
  have hO9 := Lib.hid (hO8.out.trans' ho9)
  have hk9 := Lib.hid (hk8.out.trans' ho9)
  clear hc9 ho9 hO8 hk8
  go_wp2_with fail
  refine hc9'.out.mono ?_
  rintro e wa ⟨rfl, hoa⟩
  have hOa := Lib.hid (hO9.out.trans' hoa)
  obtain ⟨r0, r1, rl⟩ := hkeepr.out _ (hk9.out.trans' hoa)
  clear hc9' hoa hO9 hk9 hkeepr
  go_wp2
  go_ret
  exact ⟨rfl, hOa.out⟩
end Sct
end Go.Proofs.Yteeleelkepjoaaa
