/- The document's own Op of layer 6. -/
import Derived.Test.YtlbinlhaejhobaaGreatDoorPB
namespace Go.Proofs.YtlbinlhaejhobaaGreatDoor
open Go Go.RowKit

theorem in_is {lo hi a : Int} {v : Bool} (h : inB lo hi a = v) (w : World) : Calls Tryz.prog 154 #[.int .i64 a, .int .i64 lo, .int .i64 hi] w (RetB v w) := by
  rw [← h]
  exact in_any w a lo hi
theorem in_quiet {lo hi a : Int} {v : Bool} (h : inB lo hi a = v) (w : World) (n : Nat) : Calls Tryz.prog 154 #[.int .i64 a, .int .i64 lo, .int .i64 hi] (w.drewN n) fun e w'' => e = .returned (.bool v) ∧ ∃ m, w'' = w.drewN m :=
  (in_is h (w.drewN n)).mono fun _ _ ⟨he, hw⟩ => ⟨he, n, hw.symm⟩
theorem inB_max (l a : Int) : inB 0 (l - 1) a = inB 0 (max l 0 - 1) a := by
  unfold inB
  by_cases h : 0 ≤ a ∧ a ≤ l - 1
  · rw [decide_eq_true h, decide_eq_true (by omega)]
  · rw [decide_eq_false h, decide_eq_false (by omega)]
theorem inB_zero (b : Int) : inB 0 0 b = (b == 0) := by
  unfold inB
  by_cases h : b = 0
  · subst h; rfl
  · rw [decide_eq_false (by omega)]; simp [h]
theorem opV_yes {k : Nat} {a b : Int} {r : RoomV} (h1 : inB (loA k) (hiA k r) a = true) (h2 : inB 0 (hiB k) b = true) : opV k a b r = 0 := by unfold opV; rw [if_pos ⟨h1, h2⟩]
theorem opV_noA {k : Nat} {a b : Int} {r : RoomV} (h1 : inB (loA k) (hiA k r) a = false) : opV k a b r = 5 := by unfold opV; rw [if_neg (by rw [h1]; simp)]
theorem opV_noB {k : Nat} {a b : Int} {r : RoomV} (h2 : inB 0 (hiB k) b = false) : opV k a b r = 5 := by unfold opV; rw [if_neg (by rw [h2]; simp)]

theorem rop_none (w : World) (o : Opn) (m g c l : Int) (hk : o.k < 1 ∨ 15 < o.k) : Calls Tryz.prog 122 #[o.val, .int .i64 m, .int .i64 g, .int .i64 c, .int .i64 l] w (GrowI 1 w) := by
  have hn := fun W => rnumbers_any W o.k
  rw [show numZ o.k = -1 by unfold numZ; rw [if_pos hk]] at hn
  have hn' := Lib.hid hn
  clear hk hn
  unfold Opn.val
  go_enter Tryz.func122, Tryz.ntmps122
  go_wp2_with (go_at_call 153; refine (hn'.out _).mono ?_; rintro e w' ⟨rfl, rfl⟩)
  go_ret
  exact ⟨rfl, (Only.refl _ w).alloc _⟩

set_option maxRecDepth 100000 in
set_option maxHeartbeats 1000000 in
theorem rop_1 (w : World) (a b : Int) (r : RoomV) (hr : r.ok) : Calls Tryz.prog 122 #[Opn.val ⟨1, a, b⟩, .int .i64 r.m, .int .i64 r.g, .int .i64 r.c, .int .i64 r.l] w (GrowI (opV 1 a b r) w) := by
  have hn := Lib.hid (show ∀ W, Calls Tryz.prog 153 #[.int .i64 1] W (RetI 1 W) from fun W => rnumbers_any W 1)
  obtain ⟨⟨m1, m2⟩, ⟨g1, g2⟩, ⟨c1, c2⟩, l1, l2⟩ := hr
  rw [show Opn.val ⟨1, a, b⟩ = .agg #[.int .i64 1, .int .i64 a, .int .i64 b] from rfl]
  rcases hA : inB 1 1000 a with _ | _
  · have hv := Lib.hid (opV_noA (k := 1) (b := b) (r := r) hA).symm
    have hin := Lib.hid (fun W => in_is hA W)
    clear hA
    rcases hB : (b == 0) with _ | _
    all_goals
      go_enter Tryz.func122, Tryz.ntmps122
      go_wp2_with (go_at_call 153; refine (hn.out _).mono ?_; rintro e w' ⟨rfl, rfl⟩)
      go_quiet (fail)
      go_wp2_with (go_at_call 154; refine (hin.out _).mono ?_; rintro e w' ⟨rfl, rfl⟩)
      go_ret
      exact ⟨ret_int hv.out, ((Only.refl _ w).alloc _).drewN _⟩
  · have toA := Lib.hid (show inB (loA 1) (hiA 1 r) a = true from hA)
    have hin := Lib.hid (fun W => in_is hA W)
    clear hA
    rcases hB : (b == 0) with _ | _
    · have hv := Lib.hid (opV_noB (k := 1) (a := a) (r := r) ((inB_zero b).trans hB)).symm
      go_enter Tryz.func122, Tryz.ntmps122
      go_wp2_with (go_at_call 153; refine (hn.out _).mono ?_; rintro e w' ⟨rfl, rfl⟩)
      go_quiet (fail)
      go_wp2_with (go_at_call 154; refine (hin.out _).mono ?_; rintro e w' ⟨rfl, rfl⟩)
      go_ret
      exact ⟨ret_int hv.out, ((Only.refl _ w).alloc _).drewN _⟩
    · have hv := Lib.hid (opV_yes (k := 1) (r := r) toA.out ((inB_zero b).trans hB)).symm
      go_enter Tryz.func122, Tryz.ntmps122
      go_wp2_with (go_at_call 153; refine (hn.out _).mono ?_; rintro e w' ⟨rfl, rfl⟩)
      go_quiet (fail)
      go_wp2_with (go_at_call 154; refine (hin.out _).mono ?_; rintro e w' ⟨rfl, rfl⟩)
      go_ret
      exact ⟨ret_int hv.out, ((Only.refl _ w).alloc _).drewN _⟩
set_option maxRecDepth 100000 in
set_option maxHeartbeats 1000000 in
theorem rop_2 (w : World) (a b : Int) (r : RoomV) (hr : r.ok) : Calls Tryz.prog 122 #[Opn.val ⟨2, a, b⟩, .int .i64 r.m, .int .i64 r.g, .int .i64 r.c, .int .i64 r.l] w (GrowI (opV 2 a b r) w) := by
  have hn := Lib.hid (show ∀ W, Calls Tryz.prog 153 #[.int .i64 2] W (RetI 1 W) from fun W => rnumbers_any W 2)
  obtain ⟨⟨m1, m2⟩, ⟨g1, g2⟩, ⟨c1, c2⟩, l1, l2⟩ := hr
  rw [show Opn.val ⟨2, a, b⟩ = .agg #[.int .i64 2, .int .i64 a, .int .i64 b] from rfl]
  rcases hA : inB 0 255 a with _ | _
  · have hv := Lib.hid (opV_noA (k := 2) (b := b) (r := r) hA).symm
    have hin := Lib.hid (fun W => in_is hA W)
    clear hA
    rcases hB : (b == 0) with _ | _
    all_goals
      go_enter Tryz.func122, Tryz.ntmps122
      go_wp2_with (go_at_call 153; refine (hn.out _).mono ?_; rintro e w' ⟨rfl, rfl⟩)
      go_quiet (fail)
      go_wp2_with (go_at_call 154; refine (hin.out _).mono ?_; rintro e w' ⟨rfl, rfl⟩)
      go_ret
      exact ⟨ret_int hv.out, ((Only.refl _ w).alloc _).drewN _⟩
  · have toA := Lib.hid (show inB (loA 2) (hiA 2 r) a = true from hA)
    have hin := Lib.hid (fun W => in_is hA W)
    clear hA
    rcases hB : (b == 0) with _ | _
    · have hv := Lib.hid (opV_noB (k := 2) (a := a) (r := r) ((inB_zero b).trans hB)).symm
      go_enter Tryz.func122, Tryz.ntmps122
      go_wp2_with (go_at_call 153; refine (hn.out _).mono ?_; rintro e w' ⟨rfl, rfl⟩)
      go_quiet (fail)
      go_wp2_with (go_at_call 154; refine (hin.out _).mono ?_; rintro e w' ⟨rfl, rfl⟩)
      go_ret
      exact ⟨ret_int hv.out, ((Only.refl _ w).alloc _).drewN _⟩
    · have hv := Lib.hid (opV_yes (k := 2) (r := r) toA.out ((inB_zero b).trans hB)).symm
      go_enter Tryz.func122, Tryz.ntmps122
      go_wp2_with (go_at_call 153; refine (hn.out _).mono ?_; rintro e w' ⟨rfl, rfl⟩)
      go_quiet (fail)
      go_wp2_with (go_at_call 154; refine (hin.out _).mono ?_; rintro e w' ⟨rfl, rfl⟩)
      go_ret
      exact ⟨ret_int hv.out, ((Only.refl _ w).alloc _).drewN _⟩
set_option maxRecDepth 100000 in
set_option maxHeartbeats 1000000 in
theorem rop_3 (w : World) (a b : Int) (r : RoomV) (hr : r.ok) : Calls Tryz.prog 122 #[Opn.val ⟨3, a, b⟩, .int .i64 r.m, .int .i64 r.g, .int .i64 r.c, .int .i64 r.l] w (GrowI (opV 3 a b r) w) := by
  have hn := Lib.hid (show ∀ W, Calls Tryz.prog 153 #[.int .i64 3] W (RetI 0 W) from fun W => rnumbers_any W 3)
  obtain ⟨⟨m1, m2⟩, ⟨g1, g2⟩, ⟨c1, c2⟩, l1, l2⟩ := hr
  rw [show Opn.val ⟨3, a, b⟩ = .agg #[.int .i64 3, .int .i64 a, .int .i64 b] from rfl]
  rcases hA : (a == 0) with _ | _
  · have hv := Lib.hid (opV_noA (k := 3) (b := b) (r := r) ((inB_zero a).trans hA)).symm
    rcases hB : (b == 0) with _ | _
    all_goals
      go_enter Tryz.func122, Tryz.ntmps122
      go_wp2_with (go_at_call 153; refine (hn.out _).mono ?_; rintro e w' ⟨rfl, rfl⟩)
      go_quiet (fail)
      go_wp2
      go_ret
      exact ⟨ret_int hv.out, ((Only.refl _ w).alloc _).drewN _⟩
  · have toA := Lib.hid (show inB (loA 3) (hiA 3 r) a = true from ((inB_zero a).trans hA))
    rcases hB : (b == 0) with _ | _
    · have hv := Lib.hid (opV_noB (k := 3) (a := a) (r := r) ((inB_zero b).trans hB)).symm
      go_enter Tryz.func122, Tryz.ntmps122
      go_wp2_with (go_at_call 153; refine (hn.out _).mono ?_; rintro e w' ⟨rfl, rfl⟩)
      go_quiet (fail)
      go_wp2
      go_ret
      exact ⟨ret_int hv.out, ((Only.refl _ w).alloc _).drewN _⟩
    · have hv := Lib.hid (opV_yes (k := 3) (r := r) toA.out ((inB_zero b).trans hB)).symm
      go_enter Tryz.func122, Tryz.ntmps122
      go_wp2_with (go_at_call 153; refine (hn.out _).mono ?_; rintro e w' ⟨rfl, rfl⟩)
      go_quiet (fail)
      go_wp2
      go_ret
      exact ⟨ret_int hv.out, ((Only.refl _ w).alloc _).drewN _⟩
set_option maxRecDepth 100000 in
set_option maxHeartbeats 1000000 in
theorem rop_4 (w : World) (a b : Int) (r : RoomV) (hr : r.ok) : Calls Tryz.prog 122 #[Opn.val ⟨4, a, b⟩, .int .i64 r.m, .int .i64 r.g, .int .i64 r.c, .int .i64 r.l] w (GrowI (opV 4 a b r) w) := by
  have hn := Lib.hid (show ∀ W, Calls Tryz.prog 153 #[.int .i64 4] W (RetI 0 W) from fun W => rnumbers_any W 4)
  obtain ⟨⟨m1, m2⟩, ⟨g1, g2⟩, ⟨c1, c2⟩, l1, l2⟩ := hr
  rw [show Opn.val ⟨4, a, b⟩ = .agg #[.int .i64 4, .int .i64 a, .int .i64 b] from rfl]
  rcases hA : (a == 0) with _ | _
  · have hv := Lib.hid (opV_noA (k := 4) (b := b) (r := r) ((inB_zero a).trans hA)).symm
    rcases hB : (b == 0) with _ | _
    all_goals
      go_enter Tryz.func122, Tryz.ntmps122
      go_wp2_with (go_at_call 153; refine (hn.out _).mono ?_; rintro e w' ⟨rfl, rfl⟩)
      go_quiet (fail)
      go_wp2
      go_ret
      exact ⟨ret_int hv.out, ((Only.refl _ w).alloc _).drewN _⟩
  · have toA := Lib.hid (show inB (loA 4) (hiA 4 r) a = true from ((inB_zero a).trans hA))
    rcases hB : (b == 0) with _ | _
    · have hv := Lib.hid (opV_noB (k := 4) (a := a) (r := r) ((inB_zero b).trans hB)).symm
      go_enter Tryz.func122, Tryz.ntmps122
      go_wp2_with (go_at_call 153; refine (hn.out _).mono ?_; rintro e w' ⟨rfl, rfl⟩)
      go_quiet (fail)
      go_wp2
      go_ret
      exact ⟨ret_int hv.out, ((Only.refl _ w).alloc _).drewN _⟩
    · have hv := Lib.hid (opV_yes (k := 4) (r := r) toA.out ((inB_zero b).trans hB)).symm
      go_enter Tryz.func122, Tryz.ntmps122
      go_wp2_with (go_at_call 153; refine (hn.out _).mono ?_; rintro e w' ⟨rfl, rfl⟩)
      go_quiet (fail)
      go_wp2
      go_ret
      exact ⟨ret_int hv.out, ((Only.refl _ w).alloc _).drewN _⟩
set_option maxRecDepth 100000 in
set_option maxHeartbeats 1000000 in
theorem rop_5 (w : World) (a b : Int) (r : RoomV) (hr : r.ok) : Calls Tryz.prog 122 #[Opn.val ⟨5, a, b⟩, .int .i64 r.m, .int .i64 r.g, .int .i64 r.c, .int .i64 r.l] w (GrowI (opV 5 a b r) w) := by
  have hn := Lib.hid (show ∀ W, Calls Tryz.prog 153 #[.int .i64 5] W (RetI 1 W) from fun W => rnumbers_any W 5)
  obtain ⟨⟨m1, m2⟩, ⟨g1, g2⟩, ⟨c1, c2⟩, l1, l2⟩ := hr
  rw [show Opn.val ⟨5, a, b⟩ = .agg #[.int .i64 5, .int .i64 a, .int .i64 b] from rfl]
  rcases hA : inB 0 (r.l - 1) a with _ | _
  · have hv := Lib.hid (opV_noA (k := 5) (b := b) (r := r) ((inB_max r.l a).symm.trans hA)).symm
    have hin := Lib.hid (fun W => in_is hA W)
    clear hA
    rcases hB : (b == 0) with _ | _
    all_goals
      go_enter Tryz.func122, Tryz.ntmps122
      go_wp2_with (go_at_call 153; refine (hn.out _).mono ?_; rintro e w' ⟨rfl, rfl⟩)
      go_quiet (fail)
      go_wp2_with (go_at_call 154; refine (hin.out _).mono ?_; rintro e w' ⟨rfl, rfl⟩)
      go_ret
      exact ⟨ret_int hv.out, ((Only.refl _ w).alloc _).drewN _⟩
  · have toA := Lib.hid (show inB (loA 5) (hiA 5 r) a = true from ((inB_max r.l a).symm.trans hA))
    have hin := Lib.hid (fun W => in_is hA W)
    clear hA
    rcases hB : (b == 0) with _ | _
    · have hv := Lib.hid (opV_noB (k := 5) (a := a) (r := r) ((inB_zero b).trans hB)).symm
      go_enter Tryz.func122, Tryz.ntmps122
      go_wp2_with (go_at_call 153; refine (hn.out _).mono ?_; rintro e w' ⟨rfl, rfl⟩)
      go_quiet (fail)
      go_wp2_with (go_at_call 154; refine (hin.out _).mono ?_; rintro e w' ⟨rfl, rfl⟩)
      go_ret
      exact ⟨ret_int hv.out, ((Only.refl _ w).alloc _).drewN _⟩
    · have hv := Lib.hid (opV_yes (k := 5) (r := r) toA.out ((inB_zero b).trans hB)).symm
      go_enter Tryz.func122, Tryz.ntmps122
      go_wp2_with (go_at_call 153; refine (hn.out _).mono ?_; rintro e w' ⟨rfl, rfl⟩)
      go_quiet (fail)
      go_wp2_with (go_at_call 154; refine (hin.out _).mono ?_; rintro e w' ⟨rfl, rfl⟩)
      go_ret
      exact ⟨ret_int hv.out, ((Only.refl _ w).alloc _).drewN _⟩
set_option maxRecDepth 100000 in
set_option maxHeartbeats 1000000 in
theorem rop_6 (w : World) (a b : Int) (r : RoomV) (hr : r.ok) : Calls Tryz.prog 122 #[Opn.val ⟨6, a, b⟩, .int .i64 r.m, .int .i64 r.g, .int .i64 r.c, .int .i64 r.l] w (GrowI (opV 6 a b r) w) := by
  have hn := Lib.hid (show ∀ W, Calls Tryz.prog 153 #[.int .i64 6] W (RetI 1 W) from fun W => rnumbers_any W 6)
  obtain ⟨⟨m1, m2⟩, ⟨g1, g2⟩, ⟨c1, c2⟩, l1, l2⟩ := hr
  rw [show Opn.val ⟨6, a, b⟩ = .agg #[.int .i64 6, .int .i64 a, .int .i64 b] from rfl]
  rcases hA : inB 0 (r.l - 1) a with _ | _
  · have hv := Lib.hid (opV_noA (k := 6) (b := b) (r := r) ((inB_max r.l a).symm.trans hA)).symm
    have hin := Lib.hid (fun W => in_is hA W)
    clear hA
    rcases hB : (b == 0) with _ | _
    all_goals
      go_enter Tryz.func122, Tryz.ntmps122
      go_wp2_with (go_at_call 153; refine (hn.out _).mono ?_; rintro e w' ⟨rfl, rfl⟩)
      go_quiet (fail)
      go_wp2_with (go_at_call 154; refine (hin.out _).mono ?_; rintro e w' ⟨rfl, rfl⟩)
      go_ret
      exact ⟨ret_int hv.out, ((Only.refl _ w).alloc _).drewN _⟩
  · have toA := Lib.hid (show inB (loA 6) (hiA 6 r) a = true from ((inB_max r.l a).symm.trans hA))
    have hin := Lib.hid (fun W => in_is hA W)
    clear hA
    rcases hB : (b == 0) with _ | _
    · have hv := Lib.hid (opV_noB (k := 6) (a := a) (r := r) ((inB_zero b).trans hB)).symm
      go_enter Tryz.func122, Tryz.ntmps122
      go_wp2_with (go_at_call 153; refine (hn.out _).mono ?_; rintro e w' ⟨rfl, rfl⟩)
      go_quiet (fail)
      go_wp2_with (go_at_call 154; refine (hin.out _).mono ?_; rintro e w' ⟨rfl, rfl⟩)
      go_ret
      exact ⟨ret_int hv.out, ((Only.refl _ w).alloc _).drewN _⟩
    · have hv := Lib.hid (opV_yes (k := 6) (r := r) toA.out ((inB_zero b).trans hB)).symm
      go_enter Tryz.func122, Tryz.ntmps122
      go_wp2_with (go_at_call 153; refine (hn.out _).mono ?_; rintro e w' ⟨rfl, rfl⟩)
      go_quiet (fail)
      go_wp2_with (go_at_call 154; refine (hin.out _).mono ?_; rintro e w' ⟨rfl, rfl⟩)
      go_ret
      exact ⟨ret_int hv.out, ((Only.refl _ w).alloc _).drewN _⟩
set_option maxRecDepth 100000 in
set_option maxHeartbeats 1000000 in
theorem rop_7 (w : World) (a b : Int) (r : RoomV) (hr : r.ok) : Calls Tryz.prog 122 #[Opn.val ⟨7, a, b⟩, .int .i64 r.m, .int .i64 r.g, .int .i64 r.c, .int .i64 r.l] w (GrowI (opV 7 a b r) w) := by
  have hn := Lib.hid (show ∀ W, Calls Tryz.prog 153 #[.int .i64 7] W (RetI 1 W) from fun W => rnumbers_any W 7)
  obtain ⟨⟨m1, m2⟩, ⟨g1, g2⟩, ⟨c1, c2⟩, l1, l2⟩ := hr
  rw [show Opn.val ⟨7, a, b⟩ = .agg #[.int .i64 7, .int .i64 a, .int .i64 b] from rfl]
  rcases hA : inB 1 4096 a with _ | _
  · have hv := Lib.hid (opV_noA (k := 7) (b := b) (r := r) hA).symm
    have hin := Lib.hid (fun W => in_is hA W)
    clear hA
    rcases hB : (b == 0) with _ | _
    all_goals
      go_enter Tryz.func122, Tryz.ntmps122
      go_wp2_with (go_at_call 153; refine (hn.out _).mono ?_; rintro e w' ⟨rfl, rfl⟩)
      go_quiet (fail)
      go_wp2_with (go_at_call 154; refine (hin.out _).mono ?_; rintro e w' ⟨rfl, rfl⟩)
      go_ret
      exact ⟨ret_int hv.out, ((Only.refl _ w).alloc _).drewN _⟩
  · have toA := Lib.hid (show inB (loA 7) (hiA 7 r) a = true from hA)
    have hin := Lib.hid (fun W => in_is hA W)
    clear hA
    rcases hB : (b == 0) with _ | _
    · have hv := Lib.hid (opV_noB (k := 7) (a := a) (r := r) ((inB_zero b).trans hB)).symm
      go_enter Tryz.func122, Tryz.ntmps122
      go_wp2_with (go_at_call 153; refine (hn.out _).mono ?_; rintro e w' ⟨rfl, rfl⟩)
      go_quiet (fail)
      go_wp2_with (go_at_call 154; refine (hin.out _).mono ?_; rintro e w' ⟨rfl, rfl⟩)
      go_ret
      exact ⟨ret_int hv.out, ((Only.refl _ w).alloc _).drewN _⟩
    · have hv := Lib.hid (opV_yes (k := 7) (r := r) toA.out ((inB_zero b).trans hB)).symm
      go_enter Tryz.func122, Tryz.ntmps122
      go_wp2_with (go_at_call 153; refine (hn.out _).mono ?_; rintro e w' ⟨rfl, rfl⟩)
      go_quiet (fail)
      go_wp2_with (go_at_call 154; refine (hin.out _).mono ?_; rintro e w' ⟨rfl, rfl⟩)
      go_ret
      exact ⟨ret_int hv.out, ((Only.refl _ w).alloc _).drewN _⟩
set_option maxRecDepth 100000 in
set_option maxHeartbeats 1000000 in
theorem rop_8 (w : World) (a b : Int) (r : RoomV) (hr : r.ok) : Calls Tryz.prog 122 #[Opn.val ⟨8, a, b⟩, .int .i64 r.m, .int .i64 r.g, .int .i64 r.c, .int .i64 r.l] w (GrowI (opV 8 a b r) w) := by
  have hn := Lib.hid (show ∀ W, Calls Tryz.prog 153 #[.int .i64 8] W (RetI 1 W) from fun W => rnumbers_any W 8)
  obtain ⟨⟨m1, m2⟩, ⟨g1, g2⟩, ⟨c1, c2⟩, l1, l2⟩ := hr
  rw [show Opn.val ⟨8, a, b⟩ = .agg #[.int .i64 8, .int .i64 a, .int .i64 b] from rfl]
  rcases hA : inB 1 4096 a with _ | _
  · have hv := Lib.hid (opV_noA (k := 8) (b := b) (r := r) hA).symm
    have hin := Lib.hid (fun W => in_is hA W)
    clear hA
    rcases hB : (b == 0) with _ | _
    all_goals
      go_enter Tryz.func122, Tryz.ntmps122
      go_wp2_with (go_at_call 153; refine (hn.out _).mono ?_; rintro e w' ⟨rfl, rfl⟩)
      go_quiet (fail)
      go_wp2_with (go_at_call 154; refine (hin.out _).mono ?_; rintro e w' ⟨rfl, rfl⟩)
      go_ret
      exact ⟨ret_int hv.out, ((Only.refl _ w).alloc _).drewN _⟩
  · have toA := Lib.hid (show inB (loA 8) (hiA 8 r) a = true from hA)
    have hin := Lib.hid (fun W => in_is hA W)
    clear hA
    rcases hB : (b == 0) with _ | _
    · have hv := Lib.hid (opV_noB (k := 8) (a := a) (r := r) ((inB_zero b).trans hB)).symm
      go_enter Tryz.func122, Tryz.ntmps122
      go_wp2_with (go_at_call 153; refine (hn.out _).mono ?_; rintro e w' ⟨rfl, rfl⟩)
      go_quiet (fail)
      go_wp2_with (go_at_call 154; refine (hin.out _).mono ?_; rintro e w' ⟨rfl, rfl⟩)
      go_ret
      exact ⟨ret_int hv.out, ((Only.refl _ w).alloc _).drewN _⟩
    · have hv := Lib.hid (opV_yes (k := 8) (r := r) toA.out ((inB_zero b).trans hB)).symm
      go_enter Tryz.func122, Tryz.ntmps122
      go_wp2_with (go_at_call 153; refine (hn.out _).mono ?_; rintro e w' ⟨rfl, rfl⟩)
      go_quiet (fail)
      go_wp2_with (go_at_call 154; refine (hin.out _).mono ?_; rintro e w' ⟨rfl, rfl⟩)
      go_ret
      exact ⟨ret_int hv.out, ((Only.refl _ w).alloc _).drewN _⟩
set_option maxRecDepth 100000 in
set_option maxHeartbeats 1000000 in
theorem rop_9 (w : World) (a b : Int) (r : RoomV) (hr : r.ok) : Calls Tryz.prog 122 #[Opn.val ⟨9, a, b⟩, .int .i64 r.m, .int .i64 r.g, .int .i64 r.c, .int .i64 r.l] w (GrowI (opV 9 a b r) w) := by
  have hn := Lib.hid (show ∀ W, Calls Tryz.prog 153 #[.int .i64 9] W (RetI 2 W) from fun W => rnumbers_any W 9)
  obtain ⟨⟨m1, m2⟩, ⟨g1, g2⟩, ⟨c1, c2⟩, l1, l2⟩ := hr
  rw [show Opn.val ⟨9, a, b⟩ = .agg #[.int .i64 9, .int .i64 a, .int .i64 b] from rfl]
  rcases hA : inB 0 (r.m - 1) a with _ | _
  all_goals rcases hB : inB 0 255 b with _ | _
  · have hv := Lib.hid (opV_noA (k := 9) (b := b) (r := r) ((inB_max r.m a).symm.trans hA)).symm
    have hi1 := Lib.hid (fun W n => in_quiet hA W n)
    have hi2 := Lib.hid (fun W n => in_quiet hB W n)
    have hi3 := Lib.hid (fun W a n => quiet_more (a := a) (n := n) ((in_is hA (World.drewN W (a + n))).mono fun _ _ ⟨he, hw⟩ => ⟨he, 0, hw.symm⟩))
    have hi4 := Lib.hid (fun W a n => quiet_more (a := a) (n := n) ((in_is hB (World.drewN W (a + n))).mono fun _ _ ⟨he, hw⟩ => ⟨he, 0, hw.symm⟩))
    clear hA hB
    have hs : IntKind.i64.wrap (r.m - 1) = r.m - 1 := IntWalk.i64_in _ (by omega)
    rcases hB0 : (b == 0) with _ | _
    all_goals
      go_enter Tryz.func122, Tryz.ntmps122
      go_wp2_with (go_at_call 153; refine (hn.out _).mono ?_; rintro e w' ⟨rfl, rfl⟩)
      go_quiet (fail)
      go_wp2
      go_quiet (first | (go_at_call 154; first | (with_reducible exact hi1.out _ _) | (with_reducible exact hi2.out _ _) | (with_reducible exact hi3.out _ _ _) | (with_reducible exact hi4.out _ _ _)))
      go_wp2
      go_ret
      exact ⟨ret_int hv.out, ((Only.refl _ w).alloc _).drewN _⟩
  · have hv := Lib.hid (opV_noA (k := 9) (b := b) (r := r) ((inB_max r.m a).symm.trans hA)).symm
    have hi1 := Lib.hid (fun W n => in_quiet hA W n)
    have hi2 := Lib.hid (fun W n => in_quiet hB W n)
    have hi3 := Lib.hid (fun W a n => quiet_more (a := a) (n := n) ((in_is hA (World.drewN W (a + n))).mono fun _ _ ⟨he, hw⟩ => ⟨he, 0, hw.symm⟩))
    have hi4 := Lib.hid (fun W a n => quiet_more (a := a) (n := n) ((in_is hB (World.drewN W (a + n))).mono fun _ _ ⟨he, hw⟩ => ⟨he, 0, hw.symm⟩))
    clear hA hB
    have hs : IntKind.i64.wrap (r.m - 1) = r.m - 1 := IntWalk.i64_in _ (by omega)
    rcases hB0 : (b == 0) with _ | _
    all_goals
      go_enter Tryz.func122, Tryz.ntmps122
      go_wp2_with (go_at_call 153; refine (hn.out _).mono ?_; rintro e w' ⟨rfl, rfl⟩)
      go_quiet (fail)
      go_wp2
      go_quiet (first | (go_at_call 154; first | (with_reducible exact hi1.out _ _) | (with_reducible exact hi2.out _ _) | (with_reducible exact hi3.out _ _ _) | (with_reducible exact hi4.out _ _ _)))
      go_wp2
      go_ret
      exact ⟨ret_int hv.out, ((Only.refl _ w).alloc _).drewN _⟩
  · have hv := Lib.hid (opV_noB (k := 9) (a := a) (r := r) (show inB 0 (hiB 9) b = false from hB)).symm
    have hi1 := Lib.hid (fun W n => in_quiet hA W n)
    have hi2 := Lib.hid (fun W n => in_quiet hB W n)
    have hi3 := Lib.hid (fun W a n => quiet_more (a := a) (n := n) ((in_is hA (World.drewN W (a + n))).mono fun _ _ ⟨he, hw⟩ => ⟨he, 0, hw.symm⟩))
    have hi4 := Lib.hid (fun W a n => quiet_more (a := a) (n := n) ((in_is hB (World.drewN W (a + n))).mono fun _ _ ⟨he, hw⟩ => ⟨he, 0, hw.symm⟩))
    clear hA hB
    have hs : IntKind.i64.wrap (r.m - 1) = r.m - 1 := IntWalk.i64_in _ (by omega)
    rcases hB0 : (b == 0) with _ | _
    all_goals
      go_enter Tryz.func122, Tryz.ntmps122
      go_wp2_with (go_at_call 153; refine (hn.out _).mono ?_; rintro e w' ⟨rfl, rfl⟩)
      go_quiet (fail)
      go_wp2
      go_quiet (first | (go_at_call 154; first | (with_reducible exact hi1.out _ _) | (with_reducible exact hi2.out _ _) | (with_reducible exact hi3.out _ _ _) | (with_reducible exact hi4.out _ _ _)))
      go_wp2
      go_ret
      exact ⟨ret_int hv.out, ((Only.refl _ w).alloc _).drewN _⟩
  · have hv := Lib.hid (opV_yes (k := 9) (r := r) ((inB_max r.m a).symm.trans hA) (show inB 0 (hiB 9) b = true from hB)).symm
    have hi1 := Lib.hid (fun W n => in_quiet hA W n)
    have hi2 := Lib.hid (fun W n => in_quiet hB W n)
    have hi3 := Lib.hid (fun W a n => quiet_more (a := a) (n := n) ((in_is hA (World.drewN W (a + n))).mono fun _ _ ⟨he, hw⟩ => ⟨he, 0, hw.symm⟩))
    have hi4 := Lib.hid (fun W a n => quiet_more (a := a) (n := n) ((in_is hB (World.drewN W (a + n))).mono fun _ _ ⟨he, hw⟩ => ⟨he, 0, hw.symm⟩))
    clear hA hB
    have hs : IntKind.i64.wrap (r.m - 1) = r.m - 1 := IntWalk.i64_in _ (by omega)
    rcases hB0 : (b == 0) with _ | _
    all_goals
      go_enter Tryz.func122, Tryz.ntmps122
      go_wp2_with (go_at_call 153; refine (hn.out _).mono ?_; rintro e w' ⟨rfl, rfl⟩)
      go_quiet (fail)
      go_wp2
      go_quiet (first | (go_at_call 154; first | (with_reducible exact hi1.out _ _) | (with_reducible exact hi2.out _ _) | (with_reducible exact hi3.out _ _ _) | (with_reducible exact hi4.out _ _ _)))
      go_wp2
      go_ret
      exact ⟨ret_int hv.out, ((Only.refl _ w).alloc _).drewN _⟩
set_option maxRecDepth 100000 in
set_option maxHeartbeats 1000000 in
theorem rop_10 (w : World) (a b : Int) (r : RoomV) (hr : r.ok) : Calls Tryz.prog 122 #[Opn.val ⟨10, a, b⟩, .int .i64 r.m, .int .i64 r.g, .int .i64 r.c, .int .i64 r.l] w (GrowI (opV 10 a b r) w) := by
  have hn := Lib.hid (show ∀ W, Calls Tryz.prog 153 #[.int .i64 10] W (RetI 1 W) from fun W => rnumbers_any W 10)
  obtain ⟨⟨m1, m2⟩, ⟨g1, g2⟩, ⟨c1, c2⟩, l1, l2⟩ := hr
  rw [show Opn.val ⟨10, a, b⟩ = .agg #[.int .i64 10, .int .i64 a, .int .i64 b] from rfl]
  rcases hA : inB 0 (r.m - 1) a with _ | _
  · have hv := Lib.hid (opV_noA (k := 10) (b := b) (r := r) ((inB_max r.m a).symm.trans hA)).symm
    have hin := Lib.hid (fun W => in_is hA W)
    clear hA
    rcases hB : (b == 0) with _ | _
    all_goals
      go_enter Tryz.func122, Tryz.ntmps122
      go_wp2_with (go_at_call 153; refine (hn.out _).mono ?_; rintro e w' ⟨rfl, rfl⟩)
      go_quiet (fail)
      go_wp2_with (go_at_call 154; refine (hin.out _).mono ?_; rintro e w' ⟨rfl, rfl⟩)
      go_ret
      exact ⟨ret_int hv.out, ((Only.refl _ w).alloc _).drewN _⟩
  · have toA := Lib.hid (show inB (loA 10) (hiA 10 r) a = true from ((inB_max r.m a).symm.trans hA))
    have hin := Lib.hid (fun W => in_is hA W)
    clear hA
    rcases hB : (b == 0) with _ | _
    · have hv := Lib.hid (opV_noB (k := 10) (a := a) (r := r) ((inB_zero b).trans hB)).symm
      go_enter Tryz.func122, Tryz.ntmps122
      go_wp2_with (go_at_call 153; refine (hn.out _).mono ?_; rintro e w' ⟨rfl, rfl⟩)
      go_quiet (fail)
      go_wp2_with (go_at_call 154; refine (hin.out _).mono ?_; rintro e w' ⟨rfl, rfl⟩)
      go_ret
      exact ⟨ret_int hv.out, ((Only.refl _ w).alloc _).drewN _⟩
    · have hv := Lib.hid (opV_yes (k := 10) (r := r) toA.out ((inB_zero b).trans hB)).symm
      go_enter Tryz.func122, Tryz.ntmps122
      go_wp2_with (go_at_call 153; refine (hn.out _).mono ?_; rintro e w' ⟨rfl, rfl⟩)
      go_quiet (fail)
      go_wp2_with (go_at_call 154; refine (hin.out _).mono ?_; rintro e w' ⟨rfl, rfl⟩)
      go_ret
      exact ⟨ret_int hv.out, ((Only.refl _ w).alloc _).drewN _⟩
set_option maxRecDepth 100000 in
set_option maxHeartbeats 1000000 in
theorem rop_11 (w : World) (a b : Int) (r : RoomV) (hr : r.ok) : Calls Tryz.prog 122 #[Opn.val ⟨11, a, b⟩, .int .i64 r.m, .int .i64 r.g, .int .i64 r.c, .int .i64 r.l] w (GrowI (opV 11 a b r) w) := by
  have hn := Lib.hid (show ∀ W, Calls Tryz.prog 153 #[.int .i64 11] W (RetI 2 W) from fun W => rnumbers_any W 11)
  obtain ⟨⟨m1, m2⟩, ⟨g1, g2⟩, ⟨c1, c2⟩, l1, l2⟩ := hr
  rw [show Opn.val ⟨11, a, b⟩ = .agg #[.int .i64 11, .int .i64 a, .int .i64 b] from rfl]
  rcases hA : inB 0 (r.g - 1) a with _ | _
  all_goals rcases hB : inB 0 255 b with _ | _
  · have hv := Lib.hid (opV_noA (k := 11) (b := b) (r := r) ((inB_max r.g a).symm.trans hA)).symm
    have hi1 := Lib.hid (fun W n => in_quiet hA W n)
    have hi2 := Lib.hid (fun W n => in_quiet hB W n)
    have hi3 := Lib.hid (fun W a n => quiet_more (a := a) (n := n) ((in_is hA (World.drewN W (a + n))).mono fun _ _ ⟨he, hw⟩ => ⟨he, 0, hw.symm⟩))
    have hi4 := Lib.hid (fun W a n => quiet_more (a := a) (n := n) ((in_is hB (World.drewN W (a + n))).mono fun _ _ ⟨he, hw⟩ => ⟨he, 0, hw.symm⟩))
    clear hA hB
    have hs : IntKind.i64.wrap (r.g - 1) = r.g - 1 := IntWalk.i64_in _ (by omega)
    rcases hB0 : (b == 0) with _ | _
    all_goals
      go_enter Tryz.func122, Tryz.ntmps122
      go_wp2_with (go_at_call 153; refine (hn.out _).mono ?_; rintro e w' ⟨rfl, rfl⟩)
      go_quiet (fail)
      go_wp2
      go_quiet (first | (go_at_call 154; first | (with_reducible exact hi1.out _ _) | (with_reducible exact hi2.out _ _) | (with_reducible exact hi3.out _ _ _) | (with_reducible exact hi4.out _ _ _)))
      go_wp2
      go_ret
      exact ⟨ret_int hv.out, ((Only.refl _ w).alloc _).drewN _⟩
  · have hv := Lib.hid (opV_noA (k := 11) (b := b) (r := r) ((inB_max r.g a).symm.trans hA)).symm
    have hi1 := Lib.hid (fun W n => in_quiet hA W n)
    have hi2 := Lib.hid (fun W n => in_quiet hB W n)
    have hi3 := Lib.hid (fun W a n => quiet_more (a := a) (n := n) ((in_is hA (World.drewN W (a + n))).mono fun _ _ ⟨he, hw⟩ => ⟨he, 0, hw.symm⟩))
    have hi4 := Lib.hid (fun W a n => quiet_more (a := a) (n := n) ((in_is hB (World.drewN W (a + n))).mono fun _ _ ⟨he, hw⟩ => ⟨he, 0, hw.symm⟩))
    clear hA hB
    have hs : IntKind.i64.wrap (r.g - 1) = r.g - 1 := IntWalk.i64_in _ (by omega)
    rcases hB0 : (b == 0) with _ | _
    all_goals
      go_enter Tryz.func122, Tryz.ntmps122
      go_wp2_with (go_at_call 153; refine (hn.out _).mono ?_; rintro e w' ⟨rfl, rfl⟩)
      go_quiet (fail)
      go_wp2
      go_quiet (first | (go_at_call 154; first | (with_reducible exact hi1.out _ _) | (with_reducible exact hi2.out _ _) | (with_reducible exact hi3.out _ _ _) | (with_reducible exact hi4.out _ _ _)))
      go_wp2
      go_ret
      exact ⟨ret_int hv.out, ((Only.refl _ w).alloc _).drewN _⟩
  · have hv := Lib.hid (opV_noB (k := 11) (a := a) (r := r) (show inB 0 (hiB 11) b = false from hB)).symm
    have hi1 := Lib.hid (fun W n => in_quiet hA W n)
    have hi2 := Lib.hid (fun W n => in_quiet hB W n)
    have hi3 := Lib.hid (fun W a n => quiet_more (a := a) (n := n) ((in_is hA (World.drewN W (a + n))).mono fun _ _ ⟨he, hw⟩ => ⟨he, 0, hw.symm⟩))
    have hi4 := Lib.hid (fun W a n => quiet_more (a := a) (n := n) ((in_is hB (World.drewN W (a + n))).mono fun _ _ ⟨he, hw⟩ => ⟨he, 0, hw.symm⟩))
    clear hA hB
    have hs : IntKind.i64.wrap (r.g - 1) = r.g - 1 := IntWalk.i64_in _ (by omega)
    rcases hB0 : (b == 0) with _ | _
    all_goals
      go_enter Tryz.func122, Tryz.ntmps122
      go_wp2_with (go_at_call 153; refine (hn.out _).mono ?_; rintro e w' ⟨rfl, rfl⟩)
      go_quiet (fail)
      go_wp2
      go_quiet (first | (go_at_call 154; first | (with_reducible exact hi1.out _ _) | (with_reducible exact hi2.out _ _) | (with_reducible exact hi3.out _ _ _) | (with_reducible exact hi4.out _ _ _)))
      go_wp2
      go_ret
      exact ⟨ret_int hv.out, ((Only.refl _ w).alloc _).drewN _⟩
  · have hv := Lib.hid (opV_yes (k := 11) (r := r) ((inB_max r.g a).symm.trans hA) (show inB 0 (hiB 11) b = true from hB)).symm
    have hi1 := Lib.hid (fun W n => in_quiet hA W n)
    have hi2 := Lib.hid (fun W n => in_quiet hB W n)
    have hi3 := Lib.hid (fun W a n => quiet_more (a := a) (n := n) ((in_is hA (World.drewN W (a + n))).mono fun _ _ ⟨he, hw⟩ => ⟨he, 0, hw.symm⟩))
    have hi4 := Lib.hid (fun W a n => quiet_more (a := a) (n := n) ((in_is hB (World.drewN W (a + n))).mono fun _ _ ⟨he, hw⟩ => ⟨he, 0, hw.symm⟩))
    clear hA hB
    have hs : IntKind.i64.wrap (r.g - 1) = r.g - 1 := IntWalk.i64_in _ (by omega)
    rcases hB0 : (b == 0) with _ | _
    all_goals
      go_enter Tryz.func122, Tryz.ntmps122
      go_wp2_with (go_at_call 153; refine (hn.out _).mono ?_; rintro e w' ⟨rfl, rfl⟩)
      go_quiet (fail)
      go_wp2
      go_quiet (first | (go_at_call 154; first | (with_reducible exact hi1.out _ _) | (with_reducible exact hi2.out _ _) | (with_reducible exact hi3.out _ _ _) | (with_reducible exact hi4.out _ _ _)))
      go_wp2
      go_ret
      exact ⟨ret_int hv.out, ((Only.refl _ w).alloc _).drewN _⟩
set_option maxRecDepth 100000 in
set_option maxHeartbeats 1000000 in
theorem rop_12 (w : World) (a b : Int) (r : RoomV) (hr : r.ok) : Calls Tryz.prog 122 #[Opn.val ⟨12, a, b⟩, .int .i64 r.m, .int .i64 r.g, .int .i64 r.c, .int .i64 r.l] w (GrowI (opV 12 a b r) w) := by
  have hn := Lib.hid (show ∀ W, Calls Tryz.prog 153 #[.int .i64 12] W (RetI 2 W) from fun W => rnumbers_any W 12)
  obtain ⟨⟨m1, m2⟩, ⟨g1, g2⟩, ⟨c1, c2⟩, l1, l2⟩ := hr
  rw [show Opn.val ⟨12, a, b⟩ = .agg #[.int .i64 12, .int .i64 a, .int .i64 b] from rfl]
  rcases hA : inB 0 (r.g - 1) a with _ | _
  all_goals rcases hB : inB 0 255 b with _ | _
  · have hv := Lib.hid (opV_noA (k := 12) (b := b) (r := r) ((inB_max r.g a).symm.trans hA)).symm
    have hi1 := Lib.hid (fun W n => in_quiet hA W n)
    have hi2 := Lib.hid (fun W n => in_quiet hB W n)
    have hi3 := Lib.hid (fun W a n => quiet_more (a := a) (n := n) ((in_is hA (World.drewN W (a + n))).mono fun _ _ ⟨he, hw⟩ => ⟨he, 0, hw.symm⟩))
    have hi4 := Lib.hid (fun W a n => quiet_more (a := a) (n := n) ((in_is hB (World.drewN W (a + n))).mono fun _ _ ⟨he, hw⟩ => ⟨he, 0, hw.symm⟩))
    clear hA hB
    have hs : IntKind.i64.wrap (r.g - 1) = r.g - 1 := IntWalk.i64_in _ (by omega)
    rcases hB0 : (b == 0) with _ | _
    all_goals
      go_enter Tryz.func122, Tryz.ntmps122
      go_wp2_with (go_at_call 153; refine (hn.out _).mono ?_; rintro e w' ⟨rfl, rfl⟩)
      go_quiet (fail)
      go_wp2
      go_quiet (first | (go_at_call 154; first | (with_reducible exact hi1.out _ _) | (with_reducible exact hi2.out _ _) | (with_reducible exact hi3.out _ _ _) | (with_reducible exact hi4.out _ _ _)))
      go_wp2
      go_ret
      exact ⟨ret_int hv.out, ((Only.refl _ w).alloc _).drewN _⟩
  · have hv := Lib.hid (opV_noA (k := 12) (b := b) (r := r) ((inB_max r.g a).symm.trans hA)).symm
    have hi1 := Lib.hid (fun W n => in_quiet hA W n)
    have hi2 := Lib.hid (fun W n => in_quiet hB W n)
    have hi3 := Lib.hid (fun W a n => quiet_more (a := a) (n := n) ((in_is hA (World.drewN W (a + n))).mono fun _ _ ⟨he, hw⟩ => ⟨he, 0, hw.symm⟩))
    have hi4 := Lib.hid (fun W a n => quiet_more (a := a) (n := n) ((in_is hB (World.drewN W (a + n))).mono fun _ _ ⟨he, hw⟩ => ⟨he, 0, hw.symm⟩))
    clear hA hB
    have hs : IntKind.i64.wrap (r.g - 1) = r.g - 1 := IntWalk.i64_in _ (by omega)
    rcases hB0 : (b == 0) with _ | _
    all_goals
      go_enter Tryz.func122, Tryz.ntmps122
      go_wp2_with (go_at_call 153; refine (hn.out _).mono ?_; rintro e w' ⟨rfl, rfl⟩)
      go_quiet (fail)
      go_wp2
      go_quiet (first | (go_at_call 154; first | (with_reducible exact hi1.out _ _) | (with_reducible exact hi2.out _ _) | (with_reducible exact hi3.out _ _ _) | (with_reducible exact hi4.out _ _ _)))
      go_wp2
      go_ret
      exact ⟨ret_int hv.out, ((Only.refl _ w).alloc _).drewN _⟩
  · have hv := Lib.hid (opV_noB (k := 12) (a := a) (r := r) (show inB 0 (hiB 12) b = false from hB)).symm
    have hi1 := Lib.hid (fun W n => in_quiet hA W n)
    have hi2 := Lib.hid (fun W n => in_quiet hB W n)
    have hi3 := Lib.hid (fun W a n => quiet_more (a := a) (n := n) ((in_is hA (World.drewN W (a + n))).mono fun _ _ ⟨he, hw⟩ => ⟨he, 0, hw.symm⟩))
    have hi4 := Lib.hid (fun W a n => quiet_more (a := a) (n := n) ((in_is hB (World.drewN W (a + n))).mono fun _ _ ⟨he, hw⟩ => ⟨he, 0, hw.symm⟩))
    clear hA hB
    have hs : IntKind.i64.wrap (r.g - 1) = r.g - 1 := IntWalk.i64_in _ (by omega)
    rcases hB0 : (b == 0) with _ | _
    all_goals
      go_enter Tryz.func122, Tryz.ntmps122
      go_wp2_with (go_at_call 153; refine (hn.out _).mono ?_; rintro e w' ⟨rfl, rfl⟩)
      go_quiet (fail)
      go_wp2
      go_quiet (first | (go_at_call 154; first | (with_reducible exact hi1.out _ _) | (with_reducible exact hi2.out _ _) | (with_reducible exact hi3.out _ _ _) | (with_reducible exact hi4.out _ _ _)))
      go_wp2
      go_ret
      exact ⟨ret_int hv.out, ((Only.refl _ w).alloc _).drewN _⟩
  · have hv := Lib.hid (opV_yes (k := 12) (r := r) ((inB_max r.g a).symm.trans hA) (show inB 0 (hiB 12) b = true from hB)).symm
    have hi1 := Lib.hid (fun W n => in_quiet hA W n)
    have hi2 := Lib.hid (fun W n => in_quiet hB W n)
    have hi3 := Lib.hid (fun W a n => quiet_more (a := a) (n := n) ((in_is hA (World.drewN W (a + n))).mono fun _ _ ⟨he, hw⟩ => ⟨he, 0, hw.symm⟩))
    have hi4 := Lib.hid (fun W a n => quiet_more (a := a) (n := n) ((in_is hB (World.drewN W (a + n))).mono fun _ _ ⟨he, hw⟩ => ⟨he, 0, hw.symm⟩))
    clear hA hB
    have hs : IntKind.i64.wrap (r.g - 1) = r.g - 1 := IntWalk.i64_in _ (by omega)
    rcases hB0 : (b == 0) with _ | _
    all_goals
      go_enter Tryz.func122, Tryz.ntmps122
      go_wp2_with (go_at_call 153; refine (hn.out _).mono ?_; rintro e w' ⟨rfl, rfl⟩)
      go_quiet (fail)
      go_wp2
      go_quiet (first | (go_at_call 154; first | (with_reducible exact hi1.out _ _) | (with_reducible exact hi2.out _ _) | (with_reducible exact hi3.out _ _ _) | (with_reducible exact hi4.out _ _ _)))
      go_wp2
      go_ret
      exact ⟨ret_int hv.out, ((Only.refl _ w).alloc _).drewN _⟩
set_option maxRecDepth 100000 in
set_option maxHeartbeats 1000000 in
theorem rop_13 (w : World) (a b : Int) (r : RoomV) (hr : r.ok) : Calls Tryz.prog 122 #[Opn.val ⟨13, a, b⟩, .int .i64 r.m, .int .i64 r.g, .int .i64 r.c, .int .i64 r.l] w (GrowI (opV 13 a b r) w) := by
  have hn := Lib.hid (show ∀ W, Calls Tryz.prog 153 #[.int .i64 13] W (RetI 2 W) from fun W => rnumbers_any W 13)
  obtain ⟨⟨m1, m2⟩, ⟨g1, g2⟩, ⟨c1, c2⟩, l1, l2⟩ := hr
  rw [show Opn.val ⟨13, a, b⟩ = .agg #[.int .i64 13, .int .i64 a, .int .i64 b] from rfl]
  rcases hA : inB 0 (r.g - 1) a with _ | _
  all_goals rcases hB : inB 0 255 b with _ | _
  · have hv := Lib.hid (opV_noA (k := 13) (b := b) (r := r) ((inB_max r.g a).symm.trans hA)).symm
    have hi1 := Lib.hid (fun W n => in_quiet hA W n)
    have hi2 := Lib.hid (fun W n => in_quiet hB W n)
    have hi3 := Lib.hid (fun W a n => quiet_more (a := a) (n := n) ((in_is hA (World.drewN W (a + n))).mono fun _ _ ⟨he, hw⟩ => ⟨he, 0, hw.symm⟩))
    have hi4 := Lib.hid (fun W a n => quiet_more (a := a) (n := n) ((in_is hB (World.drewN W (a + n))).mono fun _ _ ⟨he, hw⟩ => ⟨he, 0, hw.symm⟩))
    clear hA hB
    have hs : IntKind.i64.wrap (r.g - 1) = r.g - 1 := IntWalk.i64_in _ (by omega)
    rcases hB0 : (b == 0) with _ | _
    all_goals
      go_enter Tryz.func122, Tryz.ntmps122
      go_wp2_with (go_at_call 153; refine (hn.out _).mono ?_; rintro e w' ⟨rfl, rfl⟩)
      go_quiet (fail)
      go_wp2
      go_quiet (first | (go_at_call 154; first | (with_reducible exact hi1.out _ _) | (with_reducible exact hi2.out _ _) | (with_reducible exact hi3.out _ _ _) | (with_reducible exact hi4.out _ _ _)))
      go_wp2
      go_ret
      exact ⟨ret_int hv.out, ((Only.refl _ w).alloc _).drewN _⟩
  · have hv := Lib.hid (opV_noA (k := 13) (b := b) (r := r) ((inB_max r.g a).symm.trans hA)).symm
    have hi1 := Lib.hid (fun W n => in_quiet hA W n)
    have hi2 := Lib.hid (fun W n => in_quiet hB W n)
    have hi3 := Lib.hid (fun W a n => quiet_more (a := a) (n := n) ((in_is hA (World.drewN W (a + n))).mono fun _ _ ⟨he, hw⟩ => ⟨he, 0, hw.symm⟩))
    have hi4 := Lib.hid (fun W a n => quiet_more (a := a) (n := n) ((in_is hB (World.drewN W (a + n))).mono fun _ _ ⟨he, hw⟩ => ⟨he, 0, hw.symm⟩))
    clear hA hB
    have hs : IntKind.i64.wrap (r.g - 1) = r.g - 1 := IntWalk.i64_in _ (by omega)
    rcases hB0 : (b == 0) with _ | _
    all_goals
      go_enter Tryz.func122, Tryz.ntmps122
      go_wp2_with (go_at_call 153; refine (hn.out _).mono ?_; rintro e w' ⟨rfl, rfl⟩)
      go_quiet (fail)
      go_wp2
      go_quiet (first | (go_at_call 154; first | (with_reducible exact hi1.out _ _) | (with_reducible exact hi2.out _ _) | (with_reducible exact hi3.out _ _ _) | (with_reducible exact hi4.out _ _ _)))
      go_wp2
      go_ret
      exact ⟨ret_int hv.out, ((Only.refl _ w).alloc _).drewN _⟩
  · have hv := Lib.hid (opV_noB (k := 13) (a := a) (r := r) (show inB 0 (hiB 13) b = false from hB)).symm
    have hi1 := Lib.hid (fun W n => in_quiet hA W n)
    have hi2 := Lib.hid (fun W n => in_quiet hB W n)
    have hi3 := Lib.hid (fun W a n => quiet_more (a := a) (n := n) ((in_is hA (World.drewN W (a + n))).mono fun _ _ ⟨he, hw⟩ => ⟨he, 0, hw.symm⟩))
    have hi4 := Lib.hid (fun W a n => quiet_more (a := a) (n := n) ((in_is hB (World.drewN W (a + n))).mono fun _ _ ⟨he, hw⟩ => ⟨he, 0, hw.symm⟩))
    clear hA hB
    have hs : IntKind.i64.wrap (r.g - 1) = r.g - 1 := IntWalk.i64_in _ (by omega)
    rcases hB0 : (b == 0) with _ | _
    all_goals
      go_enter Tryz.func122, Tryz.ntmps122
      go_wp2_with (go_at_call 153; refine (hn.out _).mono ?_; rintro e w' ⟨rfl, rfl⟩)
      go_quiet (fail)
      go_wp2
      go_quiet (first | (go_at_call 154; first | (with_reducible exact hi1.out _ _) | (with_reducible exact hi2.out _ _) | (with_reducible exact hi3.out _ _ _) | (with_reducible exact hi4.out _ _ _)))
      go_wp2
      go_ret
      exact ⟨ret_int hv.out, ((Only.refl _ w).alloc _).drewN _⟩
  · have hv := Lib.hid (opV_yes (k := 13) (r := r) ((inB_max r.g a).symm.trans hA) (show inB 0 (hiB 13) b = true from hB)).symm
    have hi1 := Lib.hid (fun W n => in_quiet hA W n)
    have hi2 := Lib.hid (fun W n => in_quiet hB W n)
    have hi3 := Lib.hid (fun W a n => quiet_more (a := a) (n := n) ((in_is hA (World.drewN W (a + n))).mono fun _ _ ⟨he, hw⟩ => ⟨he, 0, hw.symm⟩))
    have hi4 := Lib.hid (fun W a n => quiet_more (a := a) (n := n) ((in_is hB (World.drewN W (a + n))).mono fun _ _ ⟨he, hw⟩ => ⟨he, 0, hw.symm⟩))
    clear hA hB
    have hs : IntKind.i64.wrap (r.g - 1) = r.g - 1 := IntWalk.i64_in _ (by omega)
    rcases hB0 : (b == 0) with _ | _
    all_goals
      go_enter Tryz.func122, Tryz.ntmps122
      go_wp2_with (go_at_call 153; refine (hn.out _).mono ?_; rintro e w' ⟨rfl, rfl⟩)
      go_quiet (fail)
      go_wp2
      go_quiet (first | (go_at_call 154; first | (with_reducible exact hi1.out _ _) | (with_reducible exact hi2.out _ _) | (with_reducible exact hi3.out _ _ _) | (with_reducible exact hi4.out _ _ _)))
      go_wp2
      go_ret
      exact ⟨ret_int hv.out, ((Only.refl _ w).alloc _).drewN _⟩
set_option maxRecDepth 100000 in
set_option maxHeartbeats 1000000 in
theorem rop_14 (w : World) (a b : Int) (r : RoomV) (hr : r.ok) : Calls Tryz.prog 122 #[Opn.val ⟨14, a, b⟩, .int .i64 r.m, .int .i64 r.g, .int .i64 r.c, .int .i64 r.l] w (GrowI (opV 14 a b r) w) := by
  have hn := Lib.hid (show ∀ W, Calls Tryz.prog 153 #[.int .i64 14] W (RetI 1 W) from fun W => rnumbers_any W 14)
  obtain ⟨⟨m1, m2⟩, ⟨g1, g2⟩, ⟨c1, c2⟩, l1, l2⟩ := hr
  rw [show Opn.val ⟨14, a, b⟩ = .agg #[.int .i64 14, .int .i64 a, .int .i64 b] from rfl]
  rcases hA : inB 0 (r.c - 1) a with _ | _
  · have hv := Lib.hid (opV_noA (k := 14) (b := b) (r := r) ((inB_max r.c a).symm.trans hA)).symm
    have hin := Lib.hid (fun W => in_is hA W)
    clear hA
    rcases hB : (b == 0) with _ | _
    all_goals
      go_enter Tryz.func122, Tryz.ntmps122
      go_wp2_with (go_at_call 153; refine (hn.out _).mono ?_; rintro e w' ⟨rfl, rfl⟩)
      go_quiet (fail)
      go_wp2_with (go_at_call 154; refine (hin.out _).mono ?_; rintro e w' ⟨rfl, rfl⟩)
      go_ret
      exact ⟨ret_int hv.out, ((Only.refl _ w).alloc _).drewN _⟩
  · have toA := Lib.hid (show inB (loA 14) (hiA 14 r) a = true from ((inB_max r.c a).symm.trans hA))
    have hin := Lib.hid (fun W => in_is hA W)
    clear hA
    rcases hB : (b == 0) with _ | _
    · have hv := Lib.hid (opV_noB (k := 14) (a := a) (r := r) ((inB_zero b).trans hB)).symm
      go_enter Tryz.func122, Tryz.ntmps122
      go_wp2_with (go_at_call 153; refine (hn.out _).mono ?_; rintro e w' ⟨rfl, rfl⟩)
      go_quiet (fail)
      go_wp2_with (go_at_call 154; refine (hin.out _).mono ?_; rintro e w' ⟨rfl, rfl⟩)
      go_ret
      exact ⟨ret_int hv.out, ((Only.refl _ w).alloc _).drewN _⟩
    · have hv := Lib.hid (opV_yes (k := 14) (r := r) toA.out ((inB_zero b).trans hB)).symm
      go_enter Tryz.func122, Tryz.ntmps122
      go_wp2_with (go_at_call 153; refine (hn.out _).mono ?_; rintro e w' ⟨rfl, rfl⟩)
      go_quiet (fail)
      go_wp2_with (go_at_call 154; refine (hin.out _).mono ?_; rintro e w' ⟨rfl, rfl⟩)
      go_ret
      exact ⟨ret_int hv.out, ((Only.refl _ w).alloc _).drewN _⟩
set_option maxRecDepth 100000 in
set_option maxHeartbeats 1000000 in
theorem rop_15 (w : World) (a b : Int) (r : RoomV) (hr : r.ok) : Calls Tryz.prog 122 #[Opn.val ⟨15, a, b⟩, .int .i64 r.m, .int .i64 r.g, .int .i64 r.c, .int .i64 r.l] w (GrowI (opV 15 a b r) w) := by
  have hn := Lib.hid (show ∀ W, Calls Tryz.prog 153 #[.int .i64 15] W (RetI 1 W) from fun W => rnumbers_any W 15)
  obtain ⟨⟨m1, m2⟩, ⟨g1, g2⟩, ⟨c1, c2⟩, l1, l2⟩ := hr
  rw [show Opn.val ⟨15, a, b⟩ = .agg #[.int .i64 15, .int .i64 a, .int .i64 b] from rfl]
  rcases hA : inB 0 (r.c - 1) a with _ | _
  · have hv := Lib.hid (opV_noA (k := 15) (b := b) (r := r) ((inB_max r.c a).symm.trans hA)).symm
    have hin := Lib.hid (fun W => in_is hA W)
    clear hA
    rcases hB : (b == 0) with _ | _
    all_goals
      go_enter Tryz.func122, Tryz.ntmps122
      go_wp2_with (go_at_call 153; refine (hn.out _).mono ?_; rintro e w' ⟨rfl, rfl⟩)
      go_quiet (fail)
      go_wp2_with (go_at_call 154; refine (hin.out _).mono ?_; rintro e w' ⟨rfl, rfl⟩)
      go_ret
      exact ⟨ret_int hv.out, ((Only.refl _ w).alloc _).drewN _⟩
  · have toA := Lib.hid (show inB (loA 15) (hiA 15 r) a = true from ((inB_max r.c a).symm.trans hA))
    have hin := Lib.hid (fun W => in_is hA W)
    clear hA
    rcases hB : (b == 0) with _ | _
    · have hv := Lib.hid (opV_noB (k := 15) (a := a) (r := r) ((inB_zero b).trans hB)).symm
      go_enter Tryz.func122, Tryz.ntmps122
      go_wp2_with (go_at_call 153; refine (hn.out _).mono ?_; rintro e w' ⟨rfl, rfl⟩)
      go_quiet (fail)
      go_wp2_with (go_at_call 154; refine (hin.out _).mono ?_; rintro e w' ⟨rfl, rfl⟩)
      go_ret
      exact ⟨ret_int hv.out, ((Only.refl _ w).alloc _).drewN _⟩
    · have hv := Lib.hid (opV_yes (k := 15) (r := r) toA.out ((inB_zero b).trans hB)).symm
      go_enter Tryz.func122, Tryz.ntmps122
      go_wp2_with (go_at_call 153; refine (hn.out _).mono ?_; rintro e w' ⟨rfl, rfl⟩)
      go_quiet (fail)
      go_wp2_with (go_at_call 154; refine (hin.out _).mono ?_; rintro e w' ⟨rfl, rfl⟩)
      go_ret
      exact ⟨ret_int hv.out, ((Only.refl _ w).alloc _).drewN _⟩
theorem rop_any (w : World) (o : Opn) (r : RoomV) (hr : r.ok) : Calls Tryz.prog 122 #[o.val, .int .i64 r.m, .int .i64 r.g, .int .i64 r.c, .int .i64 r.l] w (GrowI (opZ o r) w) := by
  obtain ⟨k, a, b⟩ := o
  by_cases hk : k < 1 ∨ 15 < k
  · have := rop_none w ⟨k, a, b⟩ r.m r.g r.c r.l hk
    rwa [show opZ ⟨k, a, b⟩ r = 1 by unfold opZ; rw [if_pos hk]]
  · have e : ∀ n : Nat, k = n → opZ ⟨k, a, b⟩ r = opV n a b r := fun n hn => by subst hn; unfold opZ; rw [if_neg hk]; rfl
    rcases kinds hk with rfl | rfl | rfl | rfl | rfl | rfl | rfl | rfl | rfl | rfl | rfl | rfl | rfl | rfl | rfl
    · rw [e 1 rfl]; exact rop_1 w a b r hr
    · rw [e 2 rfl]; exact rop_2 w a b r hr
    · rw [e 3 rfl]; exact rop_3 w a b r hr
    · rw [e 4 rfl]; exact rop_4 w a b r hr
    · rw [e 5 rfl]; exact rop_5 w a b r hr
    · rw [e 6 rfl]; exact rop_6 w a b r hr
    · rw [e 7 rfl]; exact rop_7 w a b r hr
    · rw [e 8 rfl]; exact rop_8 w a b r hr
    · rw [e 9 rfl]; exact rop_9 w a b r hr
    · rw [e 10 rfl]; exact rop_10 w a b r hr
    · rw [e 11 rfl]; exact rop_11 w a b r hr
    · rw [e 12 rfl]; exact rop_12 w a b r hr
    · rw [e 13 rfl]; exact rop_13 w a b r hr
    · rw [e 14 rfl]; exact rop_14 w a b r hr
    · rw [e 15 rfl]; exact rop_15 w a b r hr
end Go.Proofs.YtlbinlhaejhobaaGreatDoor
