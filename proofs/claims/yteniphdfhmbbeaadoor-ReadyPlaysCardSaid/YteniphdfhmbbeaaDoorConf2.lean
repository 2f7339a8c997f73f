/- Machines and tasks: their numbers. -/
import Derived.Test.YteniphdfhmbbeaaDoorConf
namespace Go.Proofs.YteniphdfhmbbeaaDoor
open Go Go.RowKit

def machB (s wy h mi : Int) : Bool := inB 1 16 s && inB 1 4 wy && inB 1 100 h && inB h 100 mi
def taskB (p th pe de fr fl : Int) : Bool := inB 0 63 p && inB p 63 th && inB 1 1048576 pe && inB 1 pe de && inB 0 4096 fr && inB 0 1048576 fl
theorem retg_bool {a b : Bool} (h : a = b) {w w' : World} (ho : Only (fun _ => False) w w') : GrowB b w (.returned (.bool a)) w' := ⟨by rw [h], ho⟩

set_option maxRecDepth 100000 in
set_option maxHeartbeats 1000000 in
theorem machine_any (w : World) (s wy h mi : Int) : Calls Tryd.prog 29 #[.agg #[.int .i64 s, .int .i64 wy, .int .i64 h, .int .i64 mi]] w (GrowB (machB s wy h mi) w) := by
  obtain ⟨b1, e1⟩ : ∃ b, b = inB 1 16 s := ⟨_, rfl⟩
  have q1 := Lib.hid (fun (W : World) (X : Nat) (hX : W.heap.size = X) => within_one hX s 1 16)
  rw [← e1] at q1
  obtain ⟨b2, e2⟩ : ∃ b, b = inB 1 4 wy := ⟨_, rfl⟩
  have q2 := Lib.hid (fun (W : World) (X : Nat) (hX : W.heap.size = X) => within_one hX wy 1 4)
  rw [← e2] at q2
  obtain ⟨b3, e3⟩ : ∃ b, b = inB 1 100 h := ⟨_, rfl⟩
  have q3 := Lib.hid (fun (W : World) (X : Nat) (hX : W.heap.size = X) => within_one hX h 1 100)
  rw [← e3] at q3
  obtain ⟨b4, e4⟩ : ∃ b, b = inB h 100 mi := ⟨_, rfl⟩
  have q4 := Lib.hid (fun (W : World) (X : Nat) (hX : W.heap.size = X) => within_one hX mi h 100)
  rw [← e4] at q4
  have hv := Lib.hid (show machB s wy h mi = (b1 && b2 && b3 && b4) from by unfold machB; rw [← e1, ← e2, ← e3, ← e4])
  rw [hv.out]
  clear e1 e2 e3 e4 hv
  cases b1
  · skip
    go_enter Tryd.func29, Tryd.ntmps29
    go_wp2_with fail
    refine (q1.out _ _ (by simp)).mono ?_
    rintro e w' ⟨rfl, rfl⟩
    go_wp2
    go_ret
    refine retg_bool (by simp) ?_
    repeat first | exact Only.refl _ _ | refine Only.alloc ?_ _
  · skip
    cases b2
    · skip
      go_enter Tryd.func29, Tryd.ntmps29
      go_wp2_with fail
      refine (q1.out _ _ (by simp)).mono ?_
      rintro e w' ⟨rfl, rfl⟩
      go_wp2_with fail
      refine (q2.out _ _ (by simp)).mono ?_
      rintro e w' ⟨rfl, rfl⟩
      go_wp2
      go_ret
      refine retg_bool (by simp) ?_
      repeat first | exact Only.refl _ _ | refine Only.alloc ?_ _
    · skip
      cases b3
      · skip
        go_enter Tryd.func29, Tryd.ntmps29
        go_wp2_with fail
        refine (q1.out _ _ (by simp)).mono ?_
        rintro e w' ⟨rfl, rfl⟩
        go_wp2_with fail
        refine (q2.out _ _ (by simp)).mono ?_
        rintro e w' ⟨rfl, rfl⟩
        go_wp2_with fail
        refine (q3.out _ _ (by simp)).mono ?_
        rintro e w' ⟨rfl, rfl⟩
        go_wp2
        go_ret
        refine retg_bool (by simp) ?_
        repeat first | exact Only.refl _ _ | refine Only.alloc ?_ _
      · skip
        cases b4
        · skip
          go_enter Tryd.func29, Tryd.ntmps29
          go_wp2_with fail
          refine (q1.out _ _ (by simp)).mono ?_
          rintro e w' ⟨rfl, rfl⟩
          go_wp2_with fail
          refine (q2.out _ _ (by simp)).mono ?_
          rintro e w' ⟨rfl, rfl⟩
          go_wp2_with fail
          refine (q3.out _ _ (by simp)).mono ?_
          rintro e w' ⟨rfl, rfl⟩
          go_wp2_with fail
          refine (q4.out _ _ (by simp)).mono ?_
          rintro e w' ⟨rfl, rfl⟩
          go_wp2
          go_ret
          refine retg_bool (by simp) ?_
          repeat first | exact Only.refl _ _ | refine Only.alloc ?_ _
        · skip
          go_enter Tryd.func29, Tryd.ntmps29
          go_wp2_with fail
          refine (q1.out _ _ (by simp)).mono ?_
          rintro e w' ⟨rfl, rfl⟩
          go_wp2_with fail
          refine (q2.out _ _ (by simp)).mono ?_
          rintro e w' ⟨rfl, rfl⟩
          go_wp2_with fail
          refine (q3.out _ _ (by simp)).mono ?_
          rintro e w' ⟨rfl, rfl⟩
          go_wp2_with fail
          refine (q4.out _ _ (by simp)).mono ?_
          rintro e w' ⟨rfl, rfl⟩
          go_wp2
          go_ret
          refine retg_bool (by simp) ?_
          repeat first | exact Only.refl _ _ | refine Only.alloc ?_ _

set_option maxRecDepth 100000 in
set_option maxHeartbeats 1000000 in
theorem mayTask_any (w : World) (t : TaskV) : Calls Tryd.prog 43 #[t.val] w (GrowB (taskB t.p t.th t.pe t.de t.fr t.fl) w) := by
  obtain ⟨b1, e1⟩ : ∃ b, b = inB 0 63 t.p := ⟨_, rfl⟩
  have q1 := Lib.hid (fun (W : World) (X : Nat) (hX : W.heap.size = X) => within_one hX t.p 0 63)
  rw [← e1] at q1
  obtain ⟨b2, e2⟩ : ∃ b, b = inB t.p 63 t.th := ⟨_, rfl⟩
  have q2 := Lib.hid (fun (W : World) (X : Nat) (hX : W.heap.size = X) => within_one hX t.th t.p 63)
  rw [← e2] at q2
  obtain ⟨b3, e3⟩ : ∃ b, b = inB 1 1048576 t.pe := ⟨_, rfl⟩
  have q3 := Lib.hid (fun (W : World) (X : Nat) (hX : W.heap.size = X) => within_one hX t.pe 1 1048576)
  rw [← e3] at q3
  obtain ⟨b4, e4⟩ : ∃ b, b = inB 1 t.pe t.de := ⟨_, rfl⟩
  have q4 := Lib.hid (fun (W : World) (X : Nat) (hX : W.heap.size = X) => within_one hX t.de 1 t.pe)
  rw [← e4] at q4
  obtain ⟨b5, e5⟩ : ∃ b, b = inB 0 4096 t.fr := ⟨_, rfl⟩
  have q5 := Lib.hid (fun (W : World) (X : Nat) (hX : W.heap.size = X) => within_one hX t.fr 0 4096)
  rw [← e5] at q5
  obtain ⟨b6, e6⟩ : ∃ b, b = inB 0 1048576 t.fl := ⟨_, rfl⟩
  have q6 := Lib.hid (fun (W : World) (X : Nat) (hX : W.heap.size = X) => within_one hX t.fl 0 1048576)
  rw [← e6] at q6
  have hv := Lib.hid (show taskB t.p t.th t.pe t.de t.fr t.fl = (b1 && b2 && b3 && b4 && b5 && b6) from by unfold taskB; rw [← e1, ← e2, ← e3, ← e4, ← e5, ← e6])
  rw [hv.out]
  clear e1 e2 e3 e4 e5 e6 hv
  rw [show t.val = .agg #[.int .i64 t.p, .int .i64 t.th, .int .i64 t.pe, .int .i64 t.de, .int .i64 t.fr, .int .i64 t.fl, .slice t.o.A t.o.n t.o.cap] from rfl]
  cases b1
  · skip
    go_enter Tryd.func43, Tryd.ntmps43
    go_wp2_with fail
    refine (q1.out _ _ (by simp)).mono ?_
    rintro e w' ⟨rfl, rfl⟩
    go_wp2
    go_ret
    refine retg_bool (by simp) ?_
    repeat first | exact Only.refl _ _ | refine Only.alloc ?_ _
  · skip
    cases b2
    · skip
      go_enter Tryd.func43, Tryd.ntmps43
      go_wp2_with fail
      refine (q1.out _ _ (by simp)).mono ?_
      rintro e w' ⟨rfl, rfl⟩
      go_wp2_with fail
      refine (q2.out _ _ (by simp)).mono ?_
      rintro e w' ⟨rfl, rfl⟩
      go_wp2
      go_ret
      refine retg_bool (by simp) ?_
      repeat first | exact Only.refl _ _ | refine Only.alloc ?_ _
    · skip
      cases b3
      · skip
        go_enter Tryd.func43, Tryd.ntmps43
        go_wp2_with fail
        refine (q1.out _ _ (by simp)).mono ?_
        rintro e w' ⟨rfl, rfl⟩
        go_wp2_with fail
        refine (q2.out _ _ (by simp)).mono ?_
        rintro e w' ⟨rfl, rfl⟩
        go_wp2_with fail
        refine (q3.out _ _ (by simp)).mono ?_
        rintro e w' ⟨rfl, rfl⟩
        go_wp2
        go_ret
        refine retg_bool (by simp) ?_
        repeat first | exact Only.refl _ _ | refine Only.alloc ?_ _
      · skip
        cases b4
        · skip
          go_enter Tryd.func43, Tryd.ntmps43
          go_wp2_with fail
          refine (q1.out _ _ (by simp)).mono ?_
          rintro e w' ⟨rfl, rfl⟩
          go_wp2_with fail
          refine (q2.out _ _ (by simp)).mono ?_
          rintro e w' ⟨rfl, rfl⟩
          go_wp2_with fail
          refine (q3.out _ _ (by simp)).mono ?_
          rintro e w' ⟨rfl, rfl⟩
          go_wp2_with fail
          refine (q4.out _ _ (by simp)).mono ?_
          rintro e w' ⟨rfl, rfl⟩
          go_wp2
          go_ret
          refine retg_bool (by simp) ?_
          repeat first | exact Only.refl _ _ | refine Only.alloc ?_ _
        · skip
          cases b5
          · skip
            go_enter Tryd.func43, Tryd.ntmps43
            go_wp2_with fail
            refine (q1.out _ _ (by simp)).mono ?_
            rintro e w' ⟨rfl, rfl⟩
            go_wp2_with fail
            refine (q2.out _ _ (by simp)).mono ?_
            rintro e w' ⟨rfl, rfl⟩
            go_wp2_with fail
            refine (q3.out _ _ (by simp)).mono ?_
            rintro e w' ⟨rfl, rfl⟩
            go_wp2_with fail
            refine (q4.out _ _ (by simp)).mono ?_
            rintro e w' ⟨rfl, rfl⟩
            go_wp2_with fail
            refine (q5.out _ _ (by simp)).mono ?_
            rintro e w' ⟨rfl, rfl⟩
            go_wp2
            go_ret
            refine retg_bool (by simp) ?_
            repeat first | exact Only.refl _ _ | refine Only.alloc ?_ _
          · skip
            cases b6
            · skip
              go_enter Tryd.func43, Tryd.ntmps43
              go_wp2_with fail
              refine (q1.out _ _ (by simp)).mono ?_
              rintro e w' ⟨rfl, rfl⟩
              go_wp2_with fail
              refine (q2.out _ _ (by simp)).mono ?_
              rintro e w' ⟨rfl, rfl⟩
              go_wp2_with fail
              refine (q3.out _ _ (by simp)).mono ?_
              rintro e w' ⟨rfl, rfl⟩
              go_wp2_with fail
              refine (q4.out _ _ (by simp)).mono ?_
              rintro e w' ⟨rfl, rfl⟩
              go_wp2_with fail
              refine (q5.out _ _ (by simp)).mono ?_
              rintro e w' ⟨rfl, rfl⟩
              go_wp2_with fail
              refine (q6.out _ _ (by simp)).mono ?_
              rintro e w' ⟨rfl, rfl⟩
              go_wp2
              go_ret
              refine retg_bool (by simp) ?_
              repeat first | exact Only.refl _ _ | refine Only.alloc ?_ _
            · skip
              go_enter Tryd.func43, Tryd.ntmps43
              go_wp2_with fail
              refine (q1.out _ _ (by simp)).mono ?_
              rintro e w' ⟨rfl, rfl⟩
              go_wp2_with fail
              refine (q2.out _ _ (by simp)).mono ?_
              rintro e w' ⟨rfl, rfl⟩
              go_wp2_with fail
              refine (q3.out _ _ (by simp)).mono ?_
              rintro e w' ⟨rfl, rfl⟩
              go_wp2_with fail
              refine (q4.out _ _ (by simp)).mono ?_
              rintro e w' ⟨rfl, rfl⟩
              go_wp2_with fail
              refine (q5.out _ _ (by simp)).mono ?_
              rintro e w' ⟨rfl, rfl⟩
              go_wp2_with fail
              refine (q6.out _ _ (by simp)).mono ?_
              rintro e w' ⟨rfl, rfl⟩
              go_wp2
              go_ret
              refine retg_bool (by simp) ?_
              repeat first | exact Only.refl _ _ | refine Only.alloc ?_ _

end Go.Proofs.YteniphdfhmbbeaaDoor
