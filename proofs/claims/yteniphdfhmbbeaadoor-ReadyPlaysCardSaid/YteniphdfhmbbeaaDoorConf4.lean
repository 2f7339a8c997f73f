/- Objects: their numbers; priorities held; locks below. -/
import Derived.Test.YteniphdfhmbbeaaDoorConf3
namespace Go.Proofs.YteniphdfhmbbeaaDoor
open Go Go.RowKit

structure ConfL where
  mb : List Int
  cn : List Int
  ce : List Int
  li : List Int
structure ObjsAt (w : World) (c : ConfV) (d : ConfL) : Prop where
  mb : IntsAt w c.mb d.mb
  cn : IntsAt w c.cn d.cn
  ce : IntsAt w c.ce d.ce
  li : IntsAt w c.li d.li
  s : c.mb.n ≤ 1000000 ∧ c.cn.n ≤ 1000000 ∧ c.ce.n ≤ 1000000 ∧ c.li.n ≤ 1000000 ∧ c.ta.n ≤ 1000000
theorem ObjsAt.new {w w' : World} {c : ConfV} {d : ConfL} (h : ObjsAt w c d) (ho : Only (fun _ => False) w w') : ObjsAt w' c d := ⟨h.mb.new ho, h.cn.new ho, h.ce.new ho, h.li.new ho, h.s⟩
def objB (c : ConfV) (d : ConfL) : Bool := allIn 1 8 d.mb && allIn 1 8 d.cn && allIn 0 63 d.ce && allIn 0 ((c.ta.n : Int) - 1) d.li

set_option maxRecDepth 100000 in
set_option maxHeartbeats 2000000 in
theorem confObjs_any {w : World} {c : ConfV} {d : ConfL} (hd : ObjsAt w c d) : Calls Tryd.prog 31 #[c.val] w (GrowB (objB c d) w) := by
  rw [show c.val = .agg #[.int .i64 c.s, .int .i64 c.wy, .int .i64 c.h, .int .i64 c.mi, .slice c.mb.A c.mb.n c.mb.cap, .int .i64 c.g, .slice c.cn.A c.cn.n c.cn.cap, .slice c.ce.A c.ce.n c.ce.cap, .slice c.ta.A c.ta.n c.ta.cap, .slice c.li.A c.li.n c.li.cap] from rfl]
  obtain ⟨b1, e1⟩ : ∃ b, b = allIn 1 8 d.mb := ⟨_, rfl⟩
  have q1 := Lib.hid (fun (W : World) (hW : Only (fun _ => False) w W) => within_any (hd.new hW).mb hd.s.1 1 8)
  rw [← e1] at q1
  obtain ⟨b2, e2⟩ : ∃ b, b = allIn 1 8 d.cn := ⟨_, rfl⟩
  have q2 := Lib.hid (fun (W : World) (hW : Only (fun _ => False) w W) => within_any (hd.new hW).cn hd.s.2.1 1 8)
  rw [← e2] at q2
  obtain ⟨b3, e3⟩ : ∃ b, b = allIn 0 63 d.ce := ⟨_, rfl⟩
  have q3 := Lib.hid (fun (W : World) (hW : Only (fun _ => False) w W) => within_any (hd.new hW).ce hd.s.2.2.1 0 63)
  rw [← e3] at q3
  obtain ⟨b4, e4⟩ : ∃ b, b = allIn 0 ((c.ta.n : Int) - 1) d.li := ⟨_, rfl⟩
  have q4 := Lib.hid (fun (W : World) (hW : Only (fun _ => False) w W) => within_any (hd.new hW).li hd.s.2.2.2.1 0 ((c.ta.n : Int) - 1))
  rw [← e4] at q4
  have hv := Lib.hid (show objB c d = (b1 && b2 && b3 && b4) from by unfold objB; rw [← e1, ← e2, ← e3, ← e4])
  rw [hv.out]
  have hs5 := hd.s.2.2.2.2
  clear e1 e2 e3 e4 hv hd
  obtain ⟨s, wy, h, mi, ⟨mA, mn, mc⟩, g, ⟨cA, cn, cc⟩, ⟨eA, en, ec⟩, ⟨tA, tn, tc⟩, ⟨lA, ln, lc⟩⟩ := c
  simp only at *
  have hO := fun o => (Only.refl (fun _ => False) w).alloc o
  have hO' := Lib.hid hO
  clear hO
  cases b1
  · skip
    go_enter Tryd.func31, Tryd.ntmps31
    go_wp2_with fail
    refine (q1.out _ (hO'.out _)).mono ?_
    rintro e w' ⟨rfl, rfl⟩
    go_wp2
    go_ret
    exact retg_bool (by simp) (hO'.out _)
  · skip
    cases b2
    · skip
      go_enter Tryd.func31, Tryd.ntmps31
      go_wp2_with fail
      refine (q1.out _ (hO'.out _)).mono ?_
      rintro e w' ⟨rfl, rfl⟩
      go_wp2_with fail
      refine (q2.out _ (hO'.out _)).mono ?_
      rintro e w' ⟨rfl, rfl⟩
      go_wp2
      go_ret
      exact retg_bool (by simp) (hO'.out _)
    · skip
      cases b3
      · skip
        go_enter Tryd.func31, Tryd.ntmps31
        go_wp2_with fail
        refine (q1.out _ (hO'.out _)).mono ?_
        rintro e w' ⟨rfl, rfl⟩
        go_wp2_with fail
        refine (q2.out _ (hO'.out _)).mono ?_
        rintro e w' ⟨rfl, rfl⟩
        go_wp2_with fail
        refine (q3.out _ (hO'.out _)).mono ?_
        rintro e w' ⟨rfl, rfl⟩
        go_wp2
        go_ret
        exact retg_bool (by simp) (hO'.out _)
      · skip
        cases b4
        · skip
          go_enter Tryd.func31, Tryd.ntmps31
          go_wp2_with fail
          refine (q1.out _ (hO'.out _)).mono ?_
          rintro e w' ⟨rfl, rfl⟩
          go_wp2_with fail
          refine (q2.out _ (hO'.out _)).mono ?_
          rintro e w' ⟨rfl, rfl⟩
          go_wp2_with fail
          refine (q3.out _ (hO'.out _)).mono ?_
          rintro e w' ⟨rfl, rfl⟩
          go_wp2_with fail
          refine (q4.out _ (hO'.out _)).mono ?_
          rintro e w' ⟨rfl, rfl⟩
          go_wp2
          go_ret
          exact retg_bool (by simp) (hO'.out _)
        · skip
          go_enter Tryd.func31, Tryd.ntmps31
          go_wp2_with fail
          refine (q1.out _ (hO'.out _)).mono ?_
          rintro e w' ⟨rfl, rfl⟩
          go_wp2_with fail
          refine (q2.out _ (hO'.out _)).mono ?_
          rintro e w' ⟨rfl, rfl⟩
          go_wp2_with fail
          refine (q3.out _ (hO'.out _)).mono ?_
          rintro e w' ⟨rfl, rfl⟩
          go_wp2_with fail
          refine (q4.out _ (hO'.out _)).mono ?_
          rintro e w' ⟨rfl, rfl⟩
          go_wp2
          go_ret
          exact retg_bool (by simp) (hO'.out _)
end Go.Proofs.YteniphdfhmbbeaaDoor
