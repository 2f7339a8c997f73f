/- Rooms; too many; what objects may be. -/
import Derived.Test.YteniphdfhmbbeaaDoorConf2
namespace Go.Proofs.YteniphdfhmbbeaaDoor
open Go Go.RowKit

def ConfV.room (c : ConfV) : RoomV := ⟨c.mb.n, c.g, c.cn.n, c.ce.n⟩
set_option maxRecDepth 100000 in
set_option maxHeartbeats 1000000 in
theorem room_any (c : ConfV) (w : World) : Calls Tryd.prog 42 #[c.val] w (GrowV c.room.val w) := by
  rw [show c.val = .agg #[.int .i64 c.s, .int .i64 c.wy, .int .i64 c.h, .int .i64 c.mi, .slice c.mb.A c.mb.n c.mb.cap, .int .i64 c.g, .slice c.cn.A c.cn.n c.cn.cap, .slice c.ce.A c.ce.n c.ce.cap, .slice c.ta.A c.ta.n c.ta.cap, .slice c.li.A c.li.n c.li.cap] from rfl]
  go_enter Tryd.func42, Tryd.ntmps42
  go_wp2
  exact bodyPost_ret (v := c.room.val) (by simp [results, Tryd.results42, go_sem, RoomV.val, ConfV.room]) rfl ⟨rfl, ((Only.refl _ w).alloc _).alloc _⟩

def max4 (a b c d : Int) : Int := (fun x => if d > x then d else x) ((fun x => if c > x then c else x) (if b > a then b else a))
theorem max4_lt (a b c d : Int) : 4 < max4 a b c d ↔ (4 < a ∨ 4 < b ∨ 4 < c ∨ 4 < d) := by
  unfold max4
  simp only
  split <;> split <;> split <;> omega
theorem run_max4 (P : Program) (t : Array TypeId) (y : TypeId) (a b c d : Int) (w : World) : Sem.run P (Builtin.max_ t y #[.int .i64 a, .int .i64 b, .int .i64 c, .int .i64 d]) w = .ok (.int .i64 (max4 a b c d)) w := rfl

def manyB (c : ConfV) : Bool := decide (4 < (c.mb.n : Int) ∨ 4 < c.g ∨ 4 < (c.cn.n : Int) ∨ 4 < (c.ce.n : Int) ∨ 8 < (c.ta.n : Int) ∨ 8 < (c.li.n : Int))
set_option maxRecDepth 100000 in
set_option maxHeartbeats 2000000 in
theorem many_any (c : ConfV) (w : World) : Calls Tryd.prog 30 #[c.val] w (GrowB (manyB c) w) := by
  have q := Lib.hid (fun W => room_any c W)
  rw [show c.room.val = .agg #[.int .i64 c.mb.n, .int .i64 c.g, .int .i64 c.cn.n, .int .i64 c.ce.n] from rfl] at q
  rw [show c.val = .agg #[.int .i64 c.s, .int .i64 c.wy, .int .i64 c.h, .int .i64 c.mi, .slice c.mb.A c.mb.n c.mb.cap, .int .i64 c.g, .slice c.cn.A c.cn.n c.cn.cap, .slice c.ce.A c.ce.n c.ce.cap, .slice c.ta.A c.ta.n c.ta.cap, .slice c.li.A c.li.n c.li.cap] from rfl] at q ⊢
  obtain ⟨v, hv⟩ : ∃ v, v = manyB c := ⟨_, rfl⟩
  have hv' := Lib.hid hv
  rw [← hv]
  clear hv
  obtain ⟨s, wy, h, mi, ⟨mA, mn, mc⟩, g, ⟨cA, cn, cc⟩, ⟨eA, en, ec⟩, ⟨tA, tn, tc⟩, ⟨lA, ln, lc⟩⟩ := c
  simp only at *
  go_enter Tryd.func30, Tryd.ntmps30
  go_wp2_with fail
  have hO := Lib.hid (show Only (fun _ => False) w (w.alloc (.cells [.int .i64 s, .int .i64 wy, .int .i64 h, .int .i64 mi, .slice mA mn mc, .int .i64 g, .slice cA cn cc, .slice eA en ec, .slice tA tn tc, .slice lA ln lc].toArray 27)) from (Only.refl _ w).alloc _)
  have hB := heap_new_at w (.cells [.int .i64 s, .int .i64 wy, .int .i64 h, .int .i64 mi, .slice mA mn mc, .int .i64 g, .slice cA cn cc, .slice eA en ec, .slice tA tn tc, .slice lA ln lc].toArray 27) rfl
  refine (q.out _).mono ?_
  rintro e w1 ⟨rfl, hO1⟩
  have hB1 := hO1.heap hB (fun h => h)
  have c8 := row_cell hB1 (i := 8) rfl
  have c9 := row_cell hB1 (i := 9) rfl
  have hlt := row_lt hB1
  have hO1' := Lib.hid (hO.out.trans' hO1)
  clear hO1 hB hB1
  have hM := fun W => run_max4 Tryd.prog #[3, 3, 3, 3] 3 mn g cn en W
  obtain ⟨M, hM0⟩ : ∃ M, M = max4 mn g cn en := ⟨_, rfl⟩
  have hm := max4_lt mn g cn en
  rw [← hM0] at hM hm
  clear hM0
  have hm' := Lib.hid hm
  clear hm
  by_cases h1 : 4 < M
  · have hz := Lib.hid (show v = true by rw [hv'.out]; unfold manyB; have := hm'.out.1 h1; simp only [decide_eq_true_eq]; omega)
    go_wp2
    go_ret
    exact ⟨ret_bool hz.out.symm, by first | exact hO1'.out | exact hO1'.out.alloc _⟩
  · by_cases h2 : 8 < (tn : Int)
    · have hz := Lib.hid (show v = true by rw [hv'.out]; unfold manyB; simp only [decide_eq_true_eq]; omega)
      go_wp2
      go_ret
      exact ⟨ret_bool hz.out.symm, by first | exact hO1'.out | exact hO1'.out.alloc _⟩
    · by_cases h3 : 8 < (ln : Int)
      · have hz := Lib.hid (show v = true by rw [hv'.out]; unfold manyB; simp only [decide_eq_true_eq]; omega)
        go_wp2
        go_ret
        exact ⟨ret_bool hz.out.symm, by first | exact hO1'.out | exact hO1'.out.alloc _⟩
      · have hz := Lib.hid (show v = false by rw [hv'.out]; unfold manyB; have := fun h => h1 (hm'.out.2 h); simp only [decide_eq_false_iff_not]; intro h; apply this; omega)
        go_wp2
        go_ret
        exact ⟨ret_bool (by rw [hz.out]; simp; omega), by first | exact hO1'.out | exact hO1'.out.alloc _⟩
end Go.Proofs.YteniphdfhmbbeaaDoor
