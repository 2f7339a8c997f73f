/- reload: is there such a task? -/
import Derived.Test.YtdoimkmhincmmaaRl
import Derived.Deep.LoopGhost
namespace Go.Proofs.Ytdoimkmhincmmaa
namespace Rld
open Go Go.RowKit Rca

theorem has_any (w : World) (c : ConfV) (z : Int) : Calls Try.prog 52 #[c.val, .int .i64 z] w (GrowB (hasT c.ta.n z) w) := by
  have hO := (Only.refl (fun _ => False) w).alloc (.cells c.cells.toArray 27)
  have hB := heap_new_at w (.cells c.cells.toArray 27) rfl
  obtain ⟨W1, hW1⟩ : ∃ W1, W1 = w.alloc (.cells c.cells.toArray 27) := ⟨_, rfl⟩
  have e8 := row_cell hB (i := 8) rfl
  have hlt1 := row_lt hB
  rw [← hW1] at e8 hO hlt1
  obtain ⟨V, hV⟩ : ∃ V, V = hasT c.ta.n z := ⟨_, rfl⟩
  rw [← hV]
  unfold hasT at hV
  rw [show c.val = .agg #[.int .i64 c.s, .int .i64 c.wy, .int .i64 c.h, .int .i64 c.mi, .slice c.mb.A c.mb.n c.mb.cap, .int .i64 c.g, .slice c.cn.A c.cn.n c.cn.cap, .slice c.ce.A c.ce.n c.ce.cap, .slice c.ta.A c.ta.n c.ta.cap, .slice c.li.A c.li.n c.li.cap] from rfl]
  unfold ConfV.cells at hW1
  obtain ⟨s, wy, h, mi, ⟨mA, mn, mc⟩, g, ⟨cA, cn, cc⟩, ⟨eA, en, ec⟩, ⟨tA, tn, tc⟩, ⟨lA, ln, lc⟩⟩ := c
  simp only at *
  have hW1' := Lib.hid hW1
  have hO' := Lib.hid hO
  have hV' := Lib.hid hV
  clear hB hW1 hO hV
  go_enter Try.func52, Try.ntmps52
  by_cases h0 : 0 ≤ z
  · by_cases h1 : z < (tn : Int)
    · have : V = true := by rw [hV'.out]; simp [h0, h1]
      subst this
      go_wp2
      rw [← hW1'.out]
      go_wp2
      go_ret
      exact ⟨rfl, hO'.out⟩
    · have : V = false := by rw [hV'.out]; simp [h1]
      subst this
      go_wp2
      rw [← hW1'.out]
      go_wp2
      go_ret
      exact ⟨rfl, hO'.out⟩
  · have : V = false := by rw [hV'.out]; simp [h0]
    subst this
    go_wp2
    rw [← hW1'.out]
    go_ret
    exact ⟨rfl, hO'.out⟩

end Rld
end Go.Proofs.Ytdoimkmhincmmaa
