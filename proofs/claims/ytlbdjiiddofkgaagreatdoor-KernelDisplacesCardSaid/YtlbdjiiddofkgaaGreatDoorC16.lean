import Derived.Test.YtlbdjiiddofkgaaGreatDoorC13
set_option maxRecDepth 100000
namespace Go.Proofs.YtlbdjiiddofkgaaGreatDoor
open Go Go.RowKit
theorem zAX {lo hi a : Int} {v : Bool} (h : inB lo hi a = v) (w : World) : Calls Tryz.prog 198 #[.int .i64 a, .int .i64 lo, .int .i64 hi] w (RetB v w) := by
 rw [<- h]
 exact zSU w a lo hi
theorem zAQ {lo hi a : Int} {v : Bool} (h : inB lo hi a = v) (w : World) (n : Nat) : Calls Tryz.prog 198 #[.int .i64 a, .int .i64 lo, .int .i64 hi] (w.drewN n) fun e w'' => e = .returned (.bool v) /\ ∃ m, w'' = w.drewN m :=
 (zAX h (w.drewN n)).mono fun _ _ ⟨he, hw⟩ => ⟨he, n, hw.symm⟩
theorem zA0 (l a : Int) : inB 0 (l - 1) a = inB 0 (max l 0 - 1) a := by
 unfold inB
 by_cases h : 0 <= a /\ a <= l - 1
 ·rw [decide_eq_true h, decide_eq_true (by omega)]
 ·rw [decide_eq_false h, decide_eq_false (by omega)]
theorem zAU (b : Int) : inB 0 0 b = (b == 0) := by
 unfold inB
 by_cases h : b = 0
 ·subst h; rfl
 ·rw [decide_eq_false (by omega)]; simp [h]
theorem zBA {k : Nat} {a b : Int} {r : jF} (h1 : inB (loA k) (hiA k r) a = true) (h2 : inB 0 (hiB k) b = true) : opV k a b r = 0 := by unfold opV; rw [if_pos ⟨h1, h2⟩]
theorem zA4 {k : Nat} {a b : Int} {r : jF} (h1 : inB (loA k) (hiA k r) a = false) : opV k a b r = 5 := by unfold opV; rw [if_neg (by rw [h1]; simp)]
theorem zBB {k : Nat} {a b : Int} {r : jF} (h2 : inB 0 (hiB k) b = false) : opV k a b r = 5 := by unfold opV; rw [if_neg (by rw [h2]; simp)]
theorem zOL (w : World) (o : Opn) (m g c l : Int) (hk : o.k < 1 ∨ 15 < o.k) : Calls Tryz.prog 136 #[o.val, .int .i64 m, .int .i64 g, .int .i64 c, .int .i64 l] w (GrowI 1 w) := by
 have hn := fun W => zAR W o.k
 rw [show numZ o.k = -1 by unfold numZ; rw [if_pos hk]] at hn
 have hn' := zh hn
 clear hk hn
 unfold Opn.val
 go_enter Tryz.func136, Tryz.ntmps136
 go_wp2_with (go_at_call 194; refine (hn'.out _).mono ?_; rintro e w' ⟨rfl, rfl⟩)
 go_ret
 exact ⟨rfl, (Only.refl _ w).alloc _⟩
set_option maxHeartbeats 1000000 in
theorem zT2 (w : World) (a b : Int) (r : jF) (hr : r.ok) : Calls Tryz.prog 136 #[Opn.val ⟨1, a, b⟩, .int .i64 r.m, .int .i64 r.g, .int .i64 r.c, .int .i64 r.l] w (GrowI (opV 1 a b r) w) := by
 have hn := zh (show ∀ W, Calls Tryz.prog 194 #[.int .i64 1] W (RetI 1 W) from fun W => zAR W 1)
 obtain ⟨⟨m1, m2⟩, ⟨g1, g2⟩, ⟨c1, c2⟩, l1, l2⟩ := hr
 rw [show Opn.val ⟨1, a, b⟩ = .agg #[.int .i64 1, .int .i64 a, .int .i64 b] from rfl]
 rcases hA : inB 1 1000 a with _ | _
 ·have hv := zh (zA4 (k := 1) (b := b) (r := r) hA).symm
  have hin := zh (fun W => zAX hA W)
  clear hA
  rcases hB : (b == 0) with _ | _
  all_goals
   go_enter Tryz.func136, Tryz.ntmps136
   go_wp2_with (go_at_call 194; refine (hn.out _).mono ?_; rintro e w' ⟨rfl, rfl⟩)
   go_quiet (fail)
   go_wp2_with (go_at_call 198; refine (hin.out _).mono ?_; rintro e w' ⟨rfl, rfl⟩)
   go_ret
   exact ⟨zAI hv.out, ((Only.refl _ w).alloc _).drewN _⟩
 ·have toA := zh (show inB (loA 1) (hiA 1 r) a = true from hA)
  have hin := zh (fun W => zAX hA W)
  clear hA
  rcases hB : (b == 0) with _ | _
  ·have hv := zh (zBB (k := 1) (a := a) (r := r) ((zAU b).trans hB)).symm
   go_enter Tryz.func136, Tryz.ntmps136
   go_wp2_with (go_at_call 194; refine (hn.out _).mono ?_; rintro e w' ⟨rfl, rfl⟩)
   go_quiet (fail)
   go_wp2_with (go_at_call 198; refine (hin.out _).mono ?_; rintro e w' ⟨rfl, rfl⟩)
   go_ret
   exact ⟨zAI hv.out, ((Only.refl _ w).alloc _).drewN _⟩
  ·have hv := zh (zBA (k := 1) (r := r) toA.out ((zAU b).trans hB)).symm
   go_enter Tryz.func136, Tryz.ntmps136
   go_wp2_with (go_at_call 194; refine (hn.out _).mono ?_; rintro e w' ⟨rfl, rfl⟩)
   go_quiet (fail)
   go_wp2_with (go_at_call 198; refine (hin.out _).mono ?_; rintro e w' ⟨rfl, rfl⟩)
   go_ret
   exact ⟨zAI hv.out, ((Only.refl _ w).alloc _).drewN _⟩
set_option maxHeartbeats 1000000 in
theorem zT3 (w : World) (a b : Int) (r : jF) (hr : r.ok) : Calls Tryz.prog 136 #[Opn.val ⟨2, a, b⟩, .int .i64 r.m, .int .i64 r.g, .int .i64 r.c, .int .i64 r.l] w (GrowI (opV 2 a b r) w) := by
 have hn := zh (show ∀ W, Calls Tryz.prog 194 #[.int .i64 2] W (RetI 1 W) from fun W => zAR W 2)
 obtain ⟨⟨m1, m2⟩, ⟨g1, g2⟩, ⟨c1, c2⟩, l1, l2⟩ := hr
 rw [show Opn.val ⟨2, a, b⟩ = .agg #[.int .i64 2, .int .i64 a, .int .i64 b] from rfl]
 rcases hA : inB 0 255 a with _ | _
 ·have hv := zh (zA4 (k := 2) (b := b) (r := r) hA).symm
  have hin := zh (fun W => zAX hA W)
  clear hA
  rcases hB : (b == 0) with _ | _
  all_goals
   go_enter Tryz.func136, Tryz.ntmps136
   go_wp2_with (go_at_call 194; refine (hn.out _).mono ?_; rintro e w' ⟨rfl, rfl⟩)
   go_quiet (fail)
   go_wp2_with (go_at_call 198; refine (hin.out _).mono ?_; rintro e w' ⟨rfl, rfl⟩)
   go_ret
   exact ⟨zAI hv.out, ((Only.refl _ w).alloc _).drewN _⟩
 ·have toA := zh (show inB (loA 2) (hiA 2 r) a = true from hA)
  have hin := zh (fun W => zAX hA W)
  clear hA
  rcases hB : (b == 0) with _ | _
  ·have hv := zh (zBB (k := 2) (a := a) (r := r) ((zAU b).trans hB)).symm
   go_enter Tryz.func136, Tryz.ntmps136
   go_wp2_with (go_at_call 194; refine (hn.out _).mono ?_; rintro e w' ⟨rfl, rfl⟩)
   go_quiet (fail)
   go_wp2_with (go_at_call 198; refine (hin.out _).mono ?_; rintro e w' ⟨rfl, rfl⟩)
   go_ret
   exact ⟨zAI hv.out, ((Only.refl _ w).alloc _).drewN _⟩
  ·have hv := zh (zBA (k := 2) (r := r) toA.out ((zAU b).trans hB)).symm
   go_enter Tryz.func136, Tryz.ntmps136
   go_wp2_with (go_at_call 194; refine (hn.out _).mono ?_; rintro e w' ⟨rfl, rfl⟩)
   go_quiet (fail)
   go_wp2_with (go_at_call 198; refine (hin.out _).mono ?_; rintro e w' ⟨rfl, rfl⟩)
   go_ret
   exact ⟨zAI hv.out, ((Only.refl _ w).alloc _).drewN _⟩
set_option maxHeartbeats 1000000 in
theorem zT4 (w : World) (a b : Int) (r : jF) (hr : r.ok) : Calls Tryz.prog 136 #[Opn.val ⟨3, a, b⟩, .int .i64 r.m, .int .i64 r.g, .int .i64 r.c, .int .i64 r.l] w (GrowI (opV 3 a b r) w) := by
 have hn := zh (show ∀ W, Calls Tryz.prog 194 #[.int .i64 3] W (RetI 0 W) from fun W => zAR W 3)
 obtain ⟨⟨m1, m2⟩, ⟨g1, g2⟩, ⟨c1, c2⟩, l1, l2⟩ := hr
 rw [show Opn.val ⟨3, a, b⟩ = .agg #[.int .i64 3, .int .i64 a, .int .i64 b] from rfl]
 rcases hA : (a == 0) with _ | _
 ·have hv := zh (zA4 (k := 3) (b := b) (r := r) ((zAU a).trans hA)).symm
  rcases hB : (b == 0) with _ | _
  all_goals
   go_enter Tryz.func136, Tryz.ntmps136
   go_wp2_with (go_at_call 194; refine (hn.out _).mono ?_; rintro e w' ⟨rfl, rfl⟩)
   go_quiet (fail)
   go_wp2
   go_ret
   exact ⟨zAI hv.out, ((Only.refl _ w).alloc _).drewN _⟩
 ·have toA := zh (show inB (loA 3) (hiA 3 r) a = true from ((zAU a).trans hA))
  rcases hB : (b == 0) with _ | _
  ·have hv := zh (zBB (k := 3) (a := a) (r := r) ((zAU b).trans hB)).symm
   go_enter Tryz.func136, Tryz.ntmps136
   go_wp2_with (go_at_call 194; refine (hn.out _).mono ?_; rintro e w' ⟨rfl, rfl⟩)
   go_quiet (fail)
   go_wp2
   go_ret
   exact ⟨zAI hv.out, ((Only.refl _ w).alloc _).drewN _⟩
  ·have hv := zh (zBA (k := 3) (r := r) toA.out ((zAU b).trans hB)).symm
   go_enter Tryz.func136, Tryz.ntmps136
   go_wp2_with (go_at_call 194; refine (hn.out _).mono ?_; rintro e w' ⟨rfl, rfl⟩)
   go_quiet (fail)
   go_wp2
   go_ret
   exact ⟨zAI hv.out, ((Only.refl _ w).alloc _).drewN _⟩
set_option maxHeartbeats 1000000 in
theorem zT5 (w : World) (a b : Int) (r : jF) (hr : r.ok) : Calls Tryz.prog 136 #[Opn.val ⟨4, a, b⟩, .int .i64 r.m, .int .i64 r.g, .int .i64 r.c, .int .i64 r.l] w (GrowI (opV 4 a b r) w) := by
 have hn := zh (show ∀ W, Calls Tryz.prog 194 #[.int .i64 4] W (RetI 0 W) from fun W => zAR W 4)
 obtain ⟨⟨m1, m2⟩, ⟨g1, g2⟩, ⟨c1, c2⟩, l1, l2⟩ := hr
 rw [show Opn.val ⟨4, a, b⟩ = .agg #[.int .i64 4, .int .i64 a, .int .i64 b] from rfl]
 rcases hA : (a == 0) with _ | _
 ·have hv := zh (zA4 (k := 4) (b := b) (r := r) ((zAU a).trans hA)).symm
  rcases hB : (b == 0) with _ | _
  all_goals
   go_enter Tryz.func136, Tryz.ntmps136
   go_wp2_with (go_at_call 194; refine (hn.out _).mono ?_; rintro e w' ⟨rfl, rfl⟩)
   go_quiet (fail)
   go_wp2
   go_ret
   exact ⟨zAI hv.out, ((Only.refl _ w).alloc _).drewN _⟩
 ·have toA := zh (show inB (loA 4) (hiA 4 r) a = true from ((zAU a).trans hA))
  rcases hB : (b == 0) with _ | _
  ·have hv := zh (zBB (k := 4) (a := a) (r := r) ((zAU b).trans hB)).symm
   go_enter Tryz.func136, Tryz.ntmps136
   go_wp2_with (go_at_call 194; refine (hn.out _).mono ?_; rintro e w' ⟨rfl, rfl⟩)
   go_quiet (fail)
   go_wp2
   go_ret
   exact ⟨zAI hv.out, ((Only.refl _ w).alloc _).drewN _⟩
  ·have hv := zh (zBA (k := 4) (r := r) toA.out ((zAU b).trans hB)).symm
   go_enter Tryz.func136, Tryz.ntmps136
   go_wp2_with (go_at_call 194; refine (hn.out _).mono ?_; rintro e w' ⟨rfl, rfl⟩)
   go_quiet (fail)
   go_wp2
   go_ret
   exact ⟨zAI hv.out, ((Only.refl _ w).alloc _).drewN _⟩
set_option maxHeartbeats 1000000 in
theorem zT6 (w : World) (a b : Int) (r : jF) (hr : r.ok) : Calls Tryz.prog 136 #[Opn.val ⟨5, a, b⟩, .int .i64 r.m, .int .i64 r.g, .int .i64 r.c, .int .i64 r.l] w (GrowI (opV 5 a b r) w) := by
 have hn := zh (show ∀ W, Calls Tryz.prog 194 #[.int .i64 5] W (RetI 1 W) from fun W => zAR W 5)
 obtain ⟨⟨m1, m2⟩, ⟨g1, g2⟩, ⟨c1, c2⟩, l1, l2⟩ := hr
 rw [show Opn.val ⟨5, a, b⟩ = .agg #[.int .i64 5, .int .i64 a, .int .i64 b] from rfl]
 rcases hA : inB 0 (r.l - 1) a with _ | _
 ·have hv := zh (zA4 (k := 5) (b := b) (r := r) ((zA0 r.l a).symm.trans hA)).symm
  have hin := zh (fun W => zAX hA W)
  clear hA
  rcases hB : (b == 0) with _ | _
  all_goals
   go_enter Tryz.func136, Tryz.ntmps136
   go_wp2_with (go_at_call 194; refine (hn.out _).mono ?_; rintro e w' ⟨rfl, rfl⟩)
   go_quiet (fail)
   go_wp2_with (go_at_call 198; refine (hin.out _).mono ?_; rintro e w' ⟨rfl, rfl⟩)
   go_ret
   exact ⟨zAI hv.out, ((Only.refl _ w).alloc _).drewN _⟩
 ·have toA := zh (show inB (loA 5) (hiA 5 r) a = true from ((zA0 r.l a).symm.trans hA))
  have hin := zh (fun W => zAX hA W)
  clear hA
  rcases hB : (b == 0) with _ | _
  ·have hv := zh (zBB (k := 5) (a := a) (r := r) ((zAU b).trans hB)).symm
   go_enter Tryz.func136, Tryz.ntmps136
   go_wp2_with (go_at_call 194; refine (hn.out _).mono ?_; rintro e w' ⟨rfl, rfl⟩)
   go_quiet (fail)
   go_wp2_with (go_at_call 198; refine (hin.out _).mono ?_; rintro e w' ⟨rfl, rfl⟩)
   go_ret
   exact ⟨zAI hv.out, ((Only.refl _ w).alloc _).drewN _⟩
  ·have hv := zh (zBA (k := 5) (r := r) toA.out ((zAU b).trans hB)).symm
   go_enter Tryz.func136, Tryz.ntmps136
   go_wp2_with (go_at_call 194; refine (hn.out _).mono ?_; rintro e w' ⟨rfl, rfl⟩)
   go_quiet (fail)
   go_wp2_with (go_at_call 198; refine (hin.out _).mono ?_; rintro e w' ⟨rfl, rfl⟩)
   go_ret
   exact ⟨zAI hv.out, ((Only.refl _ w).alloc _).drewN _⟩
set_option maxHeartbeats 1000000 in
theorem zT7 (w : World) (a b : Int) (r : jF) (hr : r.ok) : Calls Tryz.prog 136 #[Opn.val ⟨6, a, b⟩, .int .i64 r.m, .int .i64 r.g, .int .i64 r.c, .int .i64 r.l] w (GrowI (opV 6 a b r) w) := by
 have hn := zh (show ∀ W, Calls Tryz.prog 194 #[.int .i64 6] W (RetI 1 W) from fun W => zAR W 6)
 obtain ⟨⟨m1, m2⟩, ⟨g1, g2⟩, ⟨c1, c2⟩, l1, l2⟩ := hr
 rw [show Opn.val ⟨6, a, b⟩ = .agg #[.int .i64 6, .int .i64 a, .int .i64 b] from rfl]
 rcases hA : inB 0 (r.l - 1) a with _ | _
 ·have hv := zh (zA4 (k := 6) (b := b) (r := r) ((zA0 r.l a).symm.trans hA)).symm
  have hin := zh (fun W => zAX hA W)
  clear hA
  rcases hB : (b == 0) with _ | _
  all_goals
   go_enter Tryz.func136, Tryz.ntmps136
   go_wp2_with (go_at_call 194; refine (hn.out _).mono ?_; rintro e w' ⟨rfl, rfl⟩)
   go_quiet (fail)
   go_wp2_with (go_at_call 198; refine (hin.out _).mono ?_; rintro e w' ⟨rfl, rfl⟩)
   go_ret
   exact ⟨zAI hv.out, ((Only.refl _ w).alloc _).drewN _⟩
 ·have toA := zh (show inB (loA 6) (hiA 6 r) a = true from ((zA0 r.l a).symm.trans hA))
  have hin := zh (fun W => zAX hA W)
  clear hA
  rcases hB : (b == 0) with _ | _
  ·have hv := zh (zBB (k := 6) (a := a) (r := r) ((zAU b).trans hB)).symm
   go_enter Tryz.func136, Tryz.ntmps136
   go_wp2_with (go_at_call 194; refine (hn.out _).mono ?_; rintro e w' ⟨rfl, rfl⟩)
   go_quiet (fail)
   go_wp2_with (go_at_call 198; refine (hin.out _).mono ?_; rintro e w' ⟨rfl, rfl⟩)
   go_ret
   exact ⟨zAI hv.out, ((Only.refl _ w).alloc _).drewN _⟩
  ·have hv := zh (zBA (k := 6) (r := r) toA.out ((zAU b).trans hB)).symm
   go_enter Tryz.func136, Tryz.ntmps136
   go_wp2_with (go_at_call 194; refine (hn.out _).mono ?_; rintro e w' ⟨rfl, rfl⟩)
   go_quiet (fail)
   go_wp2_with (go_at_call 198; refine (hin.out _).mono ?_; rintro e w' ⟨rfl, rfl⟩)
   go_ret
   exact ⟨zAI hv.out, ((Only.refl _ w).alloc _).drewN _⟩
set_option maxHeartbeats 1000000 in
theorem zT8 (w : World) (a b : Int) (r : jF) (hr : r.ok) : Calls Tryz.prog 136 #[Opn.val ⟨7, a, b⟩, .int .i64 r.m, .int .i64 r.g, .int .i64 r.c, .int .i64 r.l] w (GrowI (opV 7 a b r) w) := by
 have hn := zh (show ∀ W, Calls Tryz.prog 194 #[.int .i64 7] W (RetI 1 W) from fun W => zAR W 7)
 obtain ⟨⟨m1, m2⟩, ⟨g1, g2⟩, ⟨c1, c2⟩, l1, l2⟩ := hr
 rw [show Opn.val ⟨7, a, b⟩ = .agg #[.int .i64 7, .int .i64 a, .int .i64 b] from rfl]
 rcases hA : inB 1 4096 a with _ | _
 ·have hv := zh (zA4 (k := 7) (b := b) (r := r) hA).symm
  have hin := zh (fun W => zAX hA W)
  clear hA
  rcases hB : (b == 0) with _ | _
  all_goals
   go_enter Tryz.func136, Tryz.ntmps136
   go_wp2_with (go_at_call 194; refine (hn.out _).mono ?_; rintro e w' ⟨rfl, rfl⟩)
   go_quiet (fail)
   go_wp2_with (go_at_call 198; refine (hin.out _).mono ?_; rintro e w' ⟨rfl, rfl⟩)
   go_ret
   exact ⟨zAI hv.out, ((Only.refl _ w).alloc _).drewN _⟩
 ·have toA := zh (show inB (loA 7) (hiA 7 r) a = true from hA)
  have hin := zh (fun W => zAX hA W)
  clear hA
  rcases hB : (b == 0) with _ | _
  ·have hv := zh (zBB (k := 7) (a := a) (r := r) ((zAU b).trans hB)).symm
   go_enter Tryz.func136, Tryz.ntmps136
   go_wp2_with (go_at_call 194; refine (hn.out _).mono ?_; rintro e w' ⟨rfl, rfl⟩)
   go_quiet (fail)
   go_wp2_with (go_at_call 198; refine (hin.out _).mono ?_; rintro e w' ⟨rfl, rfl⟩)
   go_ret
   exact ⟨zAI hv.out, ((Only.refl _ w).alloc _).drewN _⟩
  ·have hv := zh (zBA (k := 7) (r := r) toA.out ((zAU b).trans hB)).symm
   go_enter Tryz.func136, Tryz.ntmps136
   go_wp2_with (go_at_call 194; refine (hn.out _).mono ?_; rintro e w' ⟨rfl, rfl⟩)
   go_quiet (fail)
   go_wp2_with (go_at_call 198; refine (hin.out _).mono ?_; rintro e w' ⟨rfl, rfl⟩)
   go_ret
   exact ⟨zAI hv.out, ((Only.refl _ w).alloc _).drewN _⟩
set_option maxHeartbeats 1000000 in
theorem zT9 (w : World) (a b : Int) (r : jF) (hr : r.ok) : Calls Tryz.prog 136 #[Opn.val ⟨8, a, b⟩, .int .i64 r.m, .int .i64 r.g, .int .i64 r.c, .int .i64 r.l] w (GrowI (opV 8 a b r) w) := by
 have hn := zh (show ∀ W, Calls Tryz.prog 194 #[.int .i64 8] W (RetI 1 W) from fun W => zAR W 8)
 obtain ⟨⟨m1, m2⟩, ⟨g1, g2⟩, ⟨c1, c2⟩, l1, l2⟩ := hr
 rw [show Opn.val ⟨8, a, b⟩ = .agg #[.int .i64 8, .int .i64 a, .int .i64 b] from rfl]
 rcases hA : inB 1 4096 a with _ | _
 ·have hv := zh (zA4 (k := 8) (b := b) (r := r) hA).symm
  have hin := zh (fun W => zAX hA W)
  clear hA
  rcases hB : (b == 0) with _ | _
  all_goals
   go_enter Tryz.func136, Tryz.ntmps136
   go_wp2_with (go_at_call 194; refine (hn.out _).mono ?_; rintro e w' ⟨rfl, rfl⟩)
   go_quiet (fail)
   go_wp2_with (go_at_call 198; refine (hin.out _).mono ?_; rintro e w' ⟨rfl, rfl⟩)
   go_ret
   exact ⟨zAI hv.out, ((Only.refl _ w).alloc _).drewN _⟩
 ·have toA := zh (show inB (loA 8) (hiA 8 r) a = true from hA)
  have hin := zh (fun W => zAX hA W)
  clear hA
  rcases hB : (b == 0) with _ | _
  ·have hv := zh (zBB (k := 8) (a := a) (r := r) ((zAU b).trans hB)).symm
   go_enter Tryz.func136, Tryz.ntmps136
   go_wp2_with (go_at_call 194; refine (hn.out _).mono ?_; rintro e w' ⟨rfl, rfl⟩)
   go_quiet (fail)
   go_wp2_with (go_at_call 198; refine (hin.out _).mono ?_; rintro e w' ⟨rfl, rfl⟩)
   go_ret
   exact ⟨zAI hv.out, ((Only.refl _ w).alloc _).drewN _⟩
  ·have hv := zh (zBA (k := 8) (r := r) toA.out ((zAU b).trans hB)).symm
   go_enter Tryz.func136, Tryz.ntmps136
   go_wp2_with (go_at_call 194; refine (hn.out _).mono ?_; rintro e w' ⟨rfl, rfl⟩)
   go_quiet (fail)
   go_wp2_with (go_at_call 198; refine (hin.out _).mono ?_; rintro e w' ⟨rfl, rfl⟩)
   go_ret
   exact ⟨zAI hv.out, ((Only.refl _ w).alloc _).drewN _⟩
set_option maxHeartbeats 1000000 in
theorem zUA (w : World) (a b : Int) (r : jF) (hr : r.ok) : Calls Tryz.prog 136 #[Opn.val ⟨9, a, b⟩, .int .i64 r.m, .int .i64 r.g, .int .i64 r.c, .int .i64 r.l] w (GrowI (opV 9 a b r) w) := by
 have hn := zh (show ∀ W, Calls Tryz.prog 194 #[.int .i64 9] W (RetI 2 W) from fun W => zAR W 9)
 obtain ⟨⟨m1, m2⟩, ⟨g1, g2⟩, ⟨c1, c2⟩, l1, l2⟩ := hr
 rw [show Opn.val ⟨9, a, b⟩ = .agg #[.int .i64 9, .int .i64 a, .int .i64 b] from rfl]
 rcases hA : inB 0 (r.m - 1) a with _ | _
 all_goals rcases hB : inB 0 255 b with _ | _
 ·have hv := zh (zA4 (k := 9) (b := b) (r := r) ((zA0 r.m a).symm.trans hA)).symm
  have hi1 := zh (fun W n => zAQ hA W n)
  have hi2 := zh (fun W n => zAQ hB W n)
  have hi3 := zh (fun W a n => zAL (a := a) (n := n) ((zAX hA (World.drewN W (a + n))).mono fun _ _ ⟨he, hw⟩ => ⟨he, 0, hw.symm⟩))
  have hi4 := zh (fun W a n => zAL (a := a) (n := n) ((zAX hB (World.drewN W (a + n))).mono fun _ _ ⟨he, hw⟩ => ⟨he, 0, hw.symm⟩))
  clear hA hB
  have hs : IntKind.i64.wrap (r.m - 1) = r.m - 1 := IntWalk.i64_in _ (by omega)
  rcases hB0 : (b == 0) with _ | _
  all_goals
   go_enter Tryz.func136, Tryz.ntmps136
   go_wp2_with (go_at_call 194; refine (hn.out _).mono ?_; rintro e w' ⟨rfl, rfl⟩)
   go_quiet (fail)
   go_wp2
   go_quiet (first | (go_at_call 198; first | (with_reducible exact hi1.out _ _) | (with_reducible exact hi2.out _ _) | (with_reducible exact hi3.out _ _ _) | (with_reducible exact hi4.out _ _ _)))
   go_wp2
   go_ret
   exact ⟨zAI hv.out, ((Only.refl _ w).alloc _).drewN _⟩
 ·have hv := zh (zA4 (k := 9) (b := b) (r := r) ((zA0 r.m a).symm.trans hA)).symm
  have hi1 := zh (fun W n => zAQ hA W n)
  have hi2 := zh (fun W n => zAQ hB W n)
  have hi3 := zh (fun W a n => zAL (a := a) (n := n) ((zAX hA (World.drewN W (a + n))).mono fun _ _ ⟨he, hw⟩ => ⟨he, 0, hw.symm⟩))
  have hi4 := zh (fun W a n => zAL (a := a) (n := n) ((zAX hB (World.drewN W (a + n))).mono fun _ _ ⟨he, hw⟩ => ⟨he, 0, hw.symm⟩))
  clear hA hB
  have hs : IntKind.i64.wrap (r.m - 1) = r.m - 1 := IntWalk.i64_in _ (by omega)
  rcases hB0 : (b == 0) with _ | _
  all_goals
   go_enter Tryz.func136, Tryz.ntmps136
   go_wp2_with (go_at_call 194; refine (hn.out _).mono ?_; rintro e w' ⟨rfl, rfl⟩)
   go_quiet (fail)
   go_wp2
   go_quiet (first | (go_at_call 198; first | (with_reducible exact hi1.out _ _) | (with_reducible exact hi2.out _ _) | (with_reducible exact hi3.out _ _ _) | (with_reducible exact hi4.out _ _ _)))
   go_wp2
   go_ret
   exact ⟨zAI hv.out, ((Only.refl _ w).alloc _).drewN _⟩
 ·have hv := zh (zBB (k := 9) (a := a) (r := r) (show inB 0 (hiB 9) b = false from hB)).symm
  have hi1 := zh (fun W n => zAQ hA W n)
  have hi2 := zh (fun W n => zAQ hB W n)
  have hi3 := zh (fun W a n => zAL (a := a) (n := n) ((zAX hA (World.drewN W (a + n))).mono fun _ _ ⟨he, hw⟩ => ⟨he, 0, hw.symm⟩))
  have hi4 := zh (fun W a n => zAL (a := a) (n := n) ((zAX hB (World.drewN W (a + n))).mono fun _ _ ⟨he, hw⟩ => ⟨he, 0, hw.symm⟩))
  clear hA hB
  have hs : IntKind.i64.wrap (r.m - 1) = r.m - 1 := IntWalk.i64_in _ (by omega)
  rcases hB0 : (b == 0) with _ | _
  all_goals
   go_enter Tryz.func136, Tryz.ntmps136
   go_wp2_with (go_at_call 194; refine (hn.out _).mono ?_; rintro e w' ⟨rfl, rfl⟩)
   go_quiet (fail)
   go_wp2
   go_quiet (first | (go_at_call 198; first | (with_reducible exact hi1.out _ _) | (with_reducible exact hi2.out _ _) | (with_reducible exact hi3.out _ _ _) | (with_reducible exact hi4.out _ _ _)))
   go_wp2
   go_ret
   exact ⟨zAI hv.out, ((Only.refl _ w).alloc _).drewN _⟩
 ·have hv := zh (zBA (k := 9) (r := r) ((zA0 r.m a).symm.trans hA) (show inB 0 (hiB 9) b = true from hB)).symm
  have hi1 := zh (fun W n => zAQ hA W n)
  have hi2 := zh (fun W n => zAQ hB W n)
  have hi3 := zh (fun W a n => zAL (a := a) (n := n) ((zAX hA (World.drewN W (a + n))).mono fun _ _ ⟨he, hw⟩ => ⟨he, 0, hw.symm⟩))
  have hi4 := zh (fun W a n => zAL (a := a) (n := n) ((zAX hB (World.drewN W (a + n))).mono fun _ _ ⟨he, hw⟩ => ⟨he, 0, hw.symm⟩))
  clear hA hB
  have hs : IntKind.i64.wrap (r.m - 1) = r.m - 1 := IntWalk.i64_in _ (by omega)
  rcases hB0 : (b == 0) with _ | _
  all_goals
   go_enter Tryz.func136, Tryz.ntmps136
   go_wp2_with (go_at_call 194; refine (hn.out _).mono ?_; rintro e w' ⟨rfl, rfl⟩)
   go_quiet (fail)
   go_wp2
   go_quiet (first | (go_at_call 198; first | (with_reducible exact hi1.out _ _) | (with_reducible exact hi2.out _ _) | (with_reducible exact hi3.out _ _ _) | (with_reducible exact hi4.out _ _ _)))
   go_wp2
   go_ret
   exact ⟨zAI hv.out, ((Only.refl _ w).alloc _).drewN _⟩
set_option maxHeartbeats 1000000 in
theorem zSZ (w : World) (a b : Int) (r : jF) (hr : r.ok) : Calls Tryz.prog 136 #[Opn.val ⟨10, a, b⟩, .int .i64 r.m, .int .i64 r.g, .int .i64 r.c, .int .i64 r.l] w (GrowI (opV 10 a b r) w) := by
 have hn := zh (show ∀ W, Calls Tryz.prog 194 #[.int .i64 10] W (RetI 1 W) from fun W => zAR W 10)
 obtain ⟨⟨m1, m2⟩, ⟨g1, g2⟩, ⟨c1, c2⟩, l1, l2⟩ := hr
 rw [show Opn.val ⟨10, a, b⟩ = .agg #[.int .i64 10, .int .i64 a, .int .i64 b] from rfl]
 rcases hA : inB 0 (r.m - 1) a with _ | _
 ·have hv := zh (zA4 (k := 10) (b := b) (r := r) ((zA0 r.m a).symm.trans hA)).symm
  have hin := zh (fun W => zAX hA W)
  clear hA
  rcases hB : (b == 0) with _ | _
  all_goals
   go_enter Tryz.func136, Tryz.ntmps136
   go_wp2_with (go_at_call 194; refine (hn.out _).mono ?_; rintro e w' ⟨rfl, rfl⟩)
   go_quiet (fail)
   go_wp2_with (go_at_call 198; refine (hin.out _).mono ?_; rintro e w' ⟨rfl, rfl⟩)
   go_ret
   exact ⟨zAI hv.out, ((Only.refl _ w).alloc _).drewN _⟩
 ·have toA := zh (show inB (loA 10) (hiA 10 r) a = true from ((zA0 r.m a).symm.trans hA))
  have hin := zh (fun W => zAX hA W)
  clear hA
  rcases hB : (b == 0) with _ | _
  ·have hv := zh (zBB (k := 10) (a := a) (r := r) ((zAU b).trans hB)).symm
   go_enter Tryz.func136, Tryz.ntmps136
   go_wp2_with (go_at_call 194; refine (hn.out _).mono ?_; rintro e w' ⟨rfl, rfl⟩)
   go_quiet (fail)
   go_wp2_with (go_at_call 198; refine (hin.out _).mono ?_; rintro e w' ⟨rfl, rfl⟩)
   go_ret
   exact ⟨zAI hv.out, ((Only.refl _ w).alloc _).drewN _⟩
  ·have hv := zh (zBA (k := 10) (r := r) toA.out ((zAU b).trans hB)).symm
   go_enter Tryz.func136, Tryz.ntmps136
   go_wp2_with (go_at_call 194; refine (hn.out _).mono ?_; rintro e w' ⟨rfl, rfl⟩)
   go_quiet (fail)
   go_wp2_with (go_at_call 198; refine (hin.out _).mono ?_; rintro e w' ⟨rfl, rfl⟩)
   go_ret
   exact ⟨zAI hv.out, ((Only.refl _ w).alloc _).drewN _⟩
set_option maxHeartbeats 1000000 in
theorem zS0 (w : World) (a b : Int) (r : jF) (hr : r.ok) : Calls Tryz.prog 136 #[Opn.val ⟨11, a, b⟩, .int .i64 r.m, .int .i64 r.g, .int .i64 r.c, .int .i64 r.l] w (GrowI (opV 11 a b r) w) := by
 have hn := zh (show ∀ W, Calls Tryz.prog 194 #[.int .i64 11] W (RetI 2 W) from fun W => zAR W 11)
 obtain ⟨⟨m1, m2⟩, ⟨g1, g2⟩, ⟨c1, c2⟩, l1, l2⟩ := hr
 rw [show Opn.val ⟨11, a, b⟩ = .agg #[.int .i64 11, .int .i64 a, .int .i64 b] from rfl]
 rcases hA : inB 0 (r.g - 1) a with _ | _
 all_goals rcases hB : inB 0 255 b with _ | _
 ·have hv := zh (zA4 (k := 11) (b := b) (r := r) ((zA0 r.g a).symm.trans hA)).symm
  have hi1 := zh (fun W n => zAQ hA W n)
  have hi2 := zh (fun W n => zAQ hB W n)
  have hi3 := zh (fun W a n => zAL (a := a) (n := n) ((zAX hA (World.drewN W (a + n))).mono fun _ _ ⟨he, hw⟩ => ⟨he, 0, hw.symm⟩))
  have hi4 := zh (fun W a n => zAL (a := a) (n := n) ((zAX hB (World.drewN W (a + n))).mono fun _ _ ⟨he, hw⟩ => ⟨he, 0, hw.symm⟩))
  clear hA hB
  have hs : IntKind.i64.wrap (r.g - 1) = r.g - 1 := IntWalk.i64_in _ (by omega)
  rcases hB0 : (b == 0) with _ | _
  all_goals
   go_enter Tryz.func136, Tryz.ntmps136
   go_wp2_with (go_at_call 194; refine (hn.out _).mono ?_; rintro e w' ⟨rfl, rfl⟩)
   go_quiet (fail)
   go_wp2
   go_quiet (first | (go_at_call 198; first | (with_reducible exact hi1.out _ _) | (with_reducible exact hi2.out _ _) | (with_reducible exact hi3.out _ _ _) | (with_reducible exact hi4.out _ _ _)))
   go_wp2
   go_ret
   exact ⟨zAI hv.out, ((Only.refl _ w).alloc _).drewN _⟩
 ·have hv := zh (zA4 (k := 11) (b := b) (r := r) ((zA0 r.g a).symm.trans hA)).symm
  have hi1 := zh (fun W n => zAQ hA W n)
  have hi2 := zh (fun W n => zAQ hB W n)
  have hi3 := zh (fun W a n => zAL (a := a) (n := n) ((zAX hA (World.drewN W (a + n))).mono fun _ _ ⟨he, hw⟩ => ⟨he, 0, hw.symm⟩))
  have hi4 := zh (fun W a n => zAL (a := a) (n := n) ((zAX hB (World.drewN W (a + n))).mono fun _ _ ⟨he, hw⟩ => ⟨he, 0, hw.symm⟩))
  clear hA hB
  have hs : IntKind.i64.wrap (r.g - 1) = r.g - 1 := IntWalk.i64_in _ (by omega)
  rcases hB0 : (b == 0) with _ | _
  all_goals
   go_enter Tryz.func136, Tryz.ntmps136
   go_wp2_with (go_at_call 194; refine (hn.out _).mono ?_; rintro e w' ⟨rfl, rfl⟩)
   go_quiet (fail)
   go_wp2
   go_quiet (first | (go_at_call 198; first | (with_reducible exact hi1.out _ _) | (with_reducible exact hi2.out _ _) | (with_reducible exact hi3.out _ _ _) | (with_reducible exact hi4.out _ _ _)))
   go_wp2
   go_ret
   exact ⟨zAI hv.out, ((Only.refl _ w).alloc _).drewN _⟩
 ·have hv := zh (zBB (k := 11) (a := a) (r := r) (show inB 0 (hiB 11) b = false from hB)).symm
  have hi1 := zh (fun W n => zAQ hA W n)
  have hi2 := zh (fun W n => zAQ hB W n)
  have hi3 := zh (fun W a n => zAL (a := a) (n := n) ((zAX hA (World.drewN W (a + n))).mono fun _ _ ⟨he, hw⟩ => ⟨he, 0, hw.symm⟩))
  have hi4 := zh (fun W a n => zAL (a := a) (n := n) ((zAX hB (World.drewN W (a + n))).mono fun _ _ ⟨he, hw⟩ => ⟨he, 0, hw.symm⟩))
  clear hA hB
  have hs : IntKind.i64.wrap (r.g - 1) = r.g - 1 := IntWalk.i64_in _ (by omega)
  rcases hB0 : (b == 0) with _ | _
  all_goals
   go_enter Tryz.func136, Tryz.ntmps136
   go_wp2_with (go_at_call 194; refine (hn.out _).mono ?_; rintro e w' ⟨rfl, rfl⟩)
   go_quiet (fail)
   go_wp2
   go_quiet (first | (go_at_call 198; first | (with_reducible exact hi1.out _ _) | (with_reducible exact hi2.out _ _) | (with_reducible exact hi3.out _ _ _) | (with_reducible exact hi4.out _ _ _)))
   go_wp2
   go_ret
   exact ⟨zAI hv.out, ((Only.refl _ w).alloc _).drewN _⟩
 ·have hv := zh (zBA (k := 11) (r := r) ((zA0 r.g a).symm.trans hA) (show inB 0 (hiB 11) b = true from hB)).symm
  have hi1 := zh (fun W n => zAQ hA W n)
  have hi2 := zh (fun W n => zAQ hB W n)
  have hi3 := zh (fun W a n => zAL (a := a) (n := n) ((zAX hA (World.drewN W (a + n))).mono fun _ _ ⟨he, hw⟩ => ⟨he, 0, hw.symm⟩))
  have hi4 := zh (fun W a n => zAL (a := a) (n := n) ((zAX hB (World.drewN W (a + n))).mono fun _ _ ⟨he, hw⟩ => ⟨he, 0, hw.symm⟩))
  clear hA hB
  have hs : IntKind.i64.wrap (r.g - 1) = r.g - 1 := IntWalk.i64_in _ (by omega)
  rcases hB0 : (b == 0) with _ | _
  all_goals
   go_enter Tryz.func136, Tryz.ntmps136
   go_wp2_with (go_at_call 194; refine (hn.out _).mono ?_; rintro e w' ⟨rfl, rfl⟩)
   go_quiet (fail)
   go_wp2
   go_quiet (first | (go_at_call 198; first | (with_reducible exact hi1.out _ _) | (with_reducible exact hi2.out _ _) | (with_reducible exact hi3.out _ _ _) | (with_reducible exact hi4.out _ _ _)))
   go_wp2
   go_ret
   exact ⟨zAI hv.out, ((Only.refl _ w).alloc _).drewN _⟩
set_option maxHeartbeats 1000000 in
theorem zS1 (w : World) (a b : Int) (r : jF) (hr : r.ok) : Calls Tryz.prog 136 #[Opn.val ⟨12, a, b⟩, .int .i64 r.m, .int .i64 r.g, .int .i64 r.c, .int .i64 r.l] w (GrowI (opV 12 a b r) w) := by
 have hn := zh (show ∀ W, Calls Tryz.prog 194 #[.int .i64 12] W (RetI 2 W) from fun W => zAR W 12)
 obtain ⟨⟨m1, m2⟩, ⟨g1, g2⟩, ⟨c1, c2⟩, l1, l2⟩ := hr
 rw [show Opn.val ⟨12, a, b⟩ = .agg #[.int .i64 12, .int .i64 a, .int .i64 b] from rfl]
 rcases hA : inB 0 (r.g - 1) a with _ | _
 all_goals rcases hB : inB 0 255 b with _ | _
 ·have hv := zh (zA4 (k := 12) (b := b) (r := r) ((zA0 r.g a).symm.trans hA)).symm
  have hi1 := zh (fun W n => zAQ hA W n)
  have hi2 := zh (fun W n => zAQ hB W n)
  have hi3 := zh (fun W a n => zAL (a := a) (n := n) ((zAX hA (World.drewN W (a + n))).mono fun _ _ ⟨he, hw⟩ => ⟨he, 0, hw.symm⟩))
  have hi4 := zh (fun W a n => zAL (a := a) (n := n) ((zAX hB (World.drewN W (a + n))).mono fun _ _ ⟨he, hw⟩ => ⟨he, 0, hw.symm⟩))
  clear hA hB
  have hs : IntKind.i64.wrap (r.g - 1) = r.g - 1 := IntWalk.i64_in _ (by omega)
  rcases hB0 : (b == 0) with _ | _
  all_goals
   go_enter Tryz.func136, Tryz.ntmps136
   go_wp2_with (go_at_call 194; refine (hn.out _).mono ?_; rintro e w' ⟨rfl, rfl⟩)
   go_quiet (fail)
   go_wp2
   go_quiet (first | (go_at_call 198; first | (with_reducible exact hi1.out _ _) | (with_reducible exact hi2.out _ _) | (with_reducible exact hi3.out _ _ _) | (with_reducible exact hi4.out _ _ _)))
   go_wp2
   go_ret
   exact ⟨zAI hv.out, ((Only.refl _ w).alloc _).drewN _⟩
 ·have hv := zh (zA4 (k := 12) (b := b) (r := r) ((zA0 r.g a).symm.trans hA)).symm
  have hi1 := zh (fun W n => zAQ hA W n)
  have hi2 := zh (fun W n => zAQ hB W n)
  have hi3 := zh (fun W a n => zAL (a := a) (n := n) ((zAX hA (World.drewN W (a + n))).mono fun _ _ ⟨he, hw⟩ => ⟨he, 0, hw.symm⟩))
  have hi4 := zh (fun W a n => zAL (a := a) (n := n) ((zAX hB (World.drewN W (a + n))).mono fun _ _ ⟨he, hw⟩ => ⟨he, 0, hw.symm⟩))
  clear hA hB
  have hs : IntKind.i64.wrap (r.g - 1) = r.g - 1 := IntWalk.i64_in _ (by omega)
  rcases hB0 : (b == 0) with _ | _
  all_goals
   go_enter Tryz.func136, Tryz.ntmps136
   go_wp2_with (go_at_call 194; refine (hn.out _).mono ?_; rintro e w' ⟨rfl, rfl⟩)
   go_quiet (fail)
   go_wp2
   go_quiet (first | (go_at_call 198; first | (with_reducible exact hi1.out _ _) | (with_reducible exact hi2.out _ _) | (with_reducible exact hi3.out _ _ _) | (with_reducible exact hi4.out _ _ _)))
   go_wp2
   go_ret
   exact ⟨zAI hv.out, ((Only.refl _ w).alloc _).drewN _⟩
 ·have hv := zh (zBB (k := 12) (a := a) (r := r) (show inB 0 (hiB 12) b = false from hB)).symm
  have hi1 := zh (fun W n => zAQ hA W n)
  have hi2 := zh (fun W n => zAQ hB W n)
  have hi3 := zh (fun W a n => zAL (a := a) (n := n) ((zAX hA (World.drewN W (a + n))).mono fun _ _ ⟨he, hw⟩ => ⟨he, 0, hw.symm⟩))
  have hi4 := zh (fun W a n => zAL (a := a) (n := n) ((zAX hB (World.drewN W (a + n))).mono fun _ _ ⟨he, hw⟩ => ⟨he, 0, hw.symm⟩))
  clear hA hB
  have hs : IntKind.i64.wrap (r.g - 1) = r.g - 1 := IntWalk.i64_in _ (by omega)
  rcases hB0 : (b == 0) with _ | _
  all_goals
   go_enter Tryz.func136, Tryz.ntmps136
   go_wp2_with (go_at_call 194; refine (hn.out _).mono ?_; rintro e w' ⟨rfl, rfl⟩)
   go_quiet (fail)
   go_wp2
   go_quiet (first | (go_at_call 198; first | (with_reducible exact hi1.out _ _) | (with_reducible exact hi2.out _ _) | (with_reducible exact hi3.out _ _ _) | (with_reducible exact hi4.out _ _ _)))
   go_wp2
   go_ret
   exact ⟨zAI hv.out, ((Only.refl _ w).alloc _).drewN _⟩
 ·have hv := zh (zBA (k := 12) (r := r) ((zA0 r.g a).symm.trans hA) (show inB 0 (hiB 12) b = true from hB)).symm
  have hi1 := zh (fun W n => zAQ hA W n)
  have hi2 := zh (fun W n => zAQ hB W n)
  have hi3 := zh (fun W a n => zAL (a := a) (n := n) ((zAX hA (World.drewN W (a + n))).mono fun _ _ ⟨he, hw⟩ => ⟨he, 0, hw.symm⟩))
  have hi4 := zh (fun W a n => zAL (a := a) (n := n) ((zAX hB (World.drewN W (a + n))).mono fun _ _ ⟨he, hw⟩ => ⟨he, 0, hw.symm⟩))
  clear hA hB
  have hs : IntKind.i64.wrap (r.g - 1) = r.g - 1 := IntWalk.i64_in _ (by omega)
  rcases hB0 : (b == 0) with _ | _
  all_goals
   go_enter Tryz.func136, Tryz.ntmps136
   go_wp2_with (go_at_call 194; refine (hn.out _).mono ?_; rintro e w' ⟨rfl, rfl⟩)
   go_quiet (fail)
   go_wp2
   go_quiet (first | (go_at_call 198; first | (with_reducible exact hi1.out _ _) | (with_reducible exact hi2.out _ _) | (with_reducible exact hi3.out _ _ _) | (with_reducible exact hi4.out _ _ _)))
   go_wp2
   go_ret
   exact ⟨zAI hv.out, ((Only.refl _ w).alloc _).drewN _⟩
set_option maxHeartbeats 1000000 in
theorem zS2 (w : World) (a b : Int) (r : jF) (hr : r.ok) : Calls Tryz.prog 136 #[Opn.val ⟨13, a, b⟩, .int .i64 r.m, .int .i64 r.g, .int .i64 r.c, .int .i64 r.l] w (GrowI (opV 13 a b r) w) := by
 have hn := zh (show ∀ W, Calls Tryz.prog 194 #[.int .i64 13] W (RetI 2 W) from fun W => zAR W 13)
 obtain ⟨⟨m1, m2⟩, ⟨g1, g2⟩, ⟨c1, c2⟩, l1, l2⟩ := hr
 rw [show Opn.val ⟨13, a, b⟩ = .agg #[.int .i64 13, .int .i64 a, .int .i64 b] from rfl]
 rcases hA : inB 0 (r.g - 1) a with _ | _
 all_goals rcases hB : inB 0 255 b with _ | _
 ·have hv := zh (zA4 (k := 13) (b := b) (r := r) ((zA0 r.g a).symm.trans hA)).symm
  have hi1 := zh (fun W n => zAQ hA W n)
  have hi2 := zh (fun W n => zAQ hB W n)
  have hi3 := zh (fun W a n => zAL (a := a) (n := n) ((zAX hA (World.drewN W (a + n))).mono fun _ _ ⟨he, hw⟩ => ⟨he, 0, hw.symm⟩))
  have hi4 := zh (fun W a n => zAL (a := a) (n := n) ((zAX hB (World.drewN W (a + n))).mono fun _ _ ⟨he, hw⟩ => ⟨he, 0, hw.symm⟩))
  clear hA hB
  have hs : IntKind.i64.wrap (r.g - 1) = r.g - 1 := IntWalk.i64_in _ (by omega)
  rcases hB0 : (b == 0) with _ | _
  all_goals
   go_enter Tryz.func136, Tryz.ntmps136
   go_wp2_with (go_at_call 194; refine (hn.out _).mono ?_; rintro e w' ⟨rfl, rfl⟩)
   go_quiet (fail)
   go_wp2
   go_quiet (first | (go_at_call 198; first | (with_reducible exact hi1.out _ _) | (with_reducible exact hi2.out _ _) | (with_reducible exact hi3.out _ _ _) | (with_reducible exact hi4.out _ _ _)))
   go_wp2
   go_ret
   exact ⟨zAI hv.out, ((Only.refl _ w).alloc _).drewN _⟩
 ·have hv := zh (zA4 (k := 13) (b := b) (r := r) ((zA0 r.g a).symm.trans hA)).symm
  have hi1 := zh (fun W n => zAQ hA W n)
  have hi2 := zh (fun W n => zAQ hB W n)
  have hi3 := zh (fun W a n => zAL (a := a) (n := n) ((zAX hA (World.drewN W (a + n))).mono fun _ _ ⟨he, hw⟩ => ⟨he, 0, hw.symm⟩))
  have hi4 := zh (fun W a n => zAL (a := a) (n := n) ((zAX hB (World.drewN W (a + n))).mono fun _ _ ⟨he, hw⟩ => ⟨he, 0, hw.symm⟩))
  clear hA hB
  have hs : IntKind.i64.wrap (r.g - 1) = r.g - 1 := IntWalk.i64_in _ (by omega)
  rcases hB0 : (b == 0) with _ | _
  all_goals
   go_enter Tryz.func136, Tryz.ntmps136
   go_wp2_with (go_at_call 194; refine (hn.out _).mono ?_; rintro e w' ⟨rfl, rfl⟩)
   go_quiet (fail)
   go_wp2
   go_quiet (first | (go_at_call 198; first | (with_reducible exact hi1.out _ _) | (with_reducible exact hi2.out _ _) | (with_reducible exact hi3.out _ _ _) | (with_reducible exact hi4.out _ _ _)))
   go_wp2
   go_ret
   exact ⟨zAI hv.out, ((Only.refl _ w).alloc _).drewN _⟩
 ·have hv := zh (zBB (k := 13) (a := a) (r := r) (show inB 0 (hiB 13) b = false from hB)).symm
  have hi1 := zh (fun W n => zAQ hA W n)
  have hi2 := zh (fun W n => zAQ hB W n)
  have hi3 := zh (fun W a n => zAL (a := a) (n := n) ((zAX hA (World.drewN W (a + n))).mono fun _ _ ⟨he, hw⟩ => ⟨he, 0, hw.symm⟩))
  have hi4 := zh (fun W a n => zAL (a := a) (n := n) ((zAX hB (World.drewN W (a + n))).mono fun _ _ ⟨he, hw⟩ => ⟨he, 0, hw.symm⟩))
  clear hA hB
  have hs : IntKind.i64.wrap (r.g - 1) = r.g - 1 := IntWalk.i64_in _ (by omega)
  rcases hB0 : (b == 0) with _ | _
  all_goals
   go_enter Tryz.func136, Tryz.ntmps136
   go_wp2_with (go_at_call 194; refine (hn.out _).mono ?_; rintro e w' ⟨rfl, rfl⟩)
   go_quiet (fail)
   go_wp2
   go_quiet (first | (go_at_call 198; first | (with_reducible exact hi1.out _ _) | (with_reducible exact hi2.out _ _) | (with_reducible exact hi3.out _ _ _) | (with_reducible exact hi4.out _ _ _)))
   go_wp2
   go_ret
   exact ⟨zAI hv.out, ((Only.refl _ w).alloc _).drewN _⟩
 ·have hv := zh (zBA (k := 13) (r := r) ((zA0 r.g a).symm.trans hA) (show inB 0 (hiB 13) b = true from hB)).symm
  have hi1 := zh (fun W n => zAQ hA W n)
  have hi2 := zh (fun W n => zAQ hB W n)
  have hi3 := zh (fun W a n => zAL (a := a) (n := n) ((zAX hA (World.drewN W (a + n))).mono fun _ _ ⟨he, hw⟩ => ⟨he, 0, hw.symm⟩))
  have hi4 := zh (fun W a n => zAL (a := a) (n := n) ((zAX hB (World.drewN W (a + n))).mono fun _ _ ⟨he, hw⟩ => ⟨he, 0, hw.symm⟩))
  clear hA hB
  have hs : IntKind.i64.wrap (r.g - 1) = r.g - 1 := IntWalk.i64_in _ (by omega)
  rcases hB0 : (b == 0) with _ | _
  all_goals
   go_enter Tryz.func136, Tryz.ntmps136
   go_wp2_with (go_at_call 194; refine (hn.out _).mono ?_; rintro e w' ⟨rfl, rfl⟩)
   go_quiet (fail)
   go_wp2
   go_quiet (first | (go_at_call 198; first | (with_reducible exact hi1.out _ _) | (with_reducible exact hi2.out _ _) | (with_reducible exact hi3.out _ _ _) | (with_reducible exact hi4.out _ _ _)))
   go_wp2
   go_ret
   exact ⟨zAI hv.out, ((Only.refl _ w).alloc _).drewN _⟩
set_option maxHeartbeats 1000000 in
theorem zS3 (w : World) (a b : Int) (r : jF) (hr : r.ok) : Calls Tryz.prog 136 #[Opn.val ⟨14, a, b⟩, .int .i64 r.m, .int .i64 r.g, .int .i64 r.c, .int .i64 r.l] w (GrowI (opV 14 a b r) w) := by
 have hn := zh (show ∀ W, Calls Tryz.prog 194 #[.int .i64 14] W (RetI 1 W) from fun W => zAR W 14)
 obtain ⟨⟨m1, m2⟩, ⟨g1, g2⟩, ⟨c1, c2⟩, l1, l2⟩ := hr
 rw [show Opn.val ⟨14, a, b⟩ = .agg #[.int .i64 14, .int .i64 a, .int .i64 b] from rfl]
 rcases hA : inB 0 (r.c - 1) a with _ | _
 ·have hv := zh (zA4 (k := 14) (b := b) (r := r) ((zA0 r.c a).symm.trans hA)).symm
  have hin := zh (fun W => zAX hA W)
  clear hA
  rcases hB : (b == 0) with _ | _
  all_goals
   go_enter Tryz.func136, Tryz.ntmps136
   go_wp2_with (go_at_call 194; refine (hn.out _).mono ?_; rintro e w' ⟨rfl, rfl⟩)
   go_quiet (fail)
   go_wp2_with (go_at_call 198; refine (hin.out _).mono ?_; rintro e w' ⟨rfl, rfl⟩)
   go_ret
   exact ⟨zAI hv.out, ((Only.refl _ w).alloc _).drewN _⟩
 ·have toA := zh (show inB (loA 14) (hiA 14 r) a = true from ((zA0 r.c a).symm.trans hA))
  have hin := zh (fun W => zAX hA W)
  clear hA
  rcases hB : (b == 0) with _ | _
  ·have hv := zh (zBB (k := 14) (a := a) (r := r) ((zAU b).trans hB)).symm
   go_enter Tryz.func136, Tryz.ntmps136
   go_wp2_with (go_at_call 194; refine (hn.out _).mono ?_; rintro e w' ⟨rfl, rfl⟩)
   go_quiet (fail)
   go_wp2_with (go_at_call 198; refine (hin.out _).mono ?_; rintro e w' ⟨rfl, rfl⟩)
   go_ret
   exact ⟨zAI hv.out, ((Only.refl _ w).alloc _).drewN _⟩
  ·have hv := zh (zBA (k := 14) (r := r) toA.out ((zAU b).trans hB)).symm
   go_enter Tryz.func136, Tryz.ntmps136
   go_wp2_with (go_at_call 194; refine (hn.out _).mono ?_; rintro e w' ⟨rfl, rfl⟩)
   go_quiet (fail)
   go_wp2_with (go_at_call 198; refine (hin.out _).mono ?_; rintro e w' ⟨rfl, rfl⟩)
   go_ret
   exact ⟨zAI hv.out, ((Only.refl _ w).alloc _).drewN _⟩
set_option maxHeartbeats 1000000 in
theorem zS4 (w : World) (a b : Int) (r : jF) (hr : r.ok) : Calls Tryz.prog 136 #[Opn.val ⟨15, a, b⟩, .int .i64 r.m, .int .i64 r.g, .int .i64 r.c, .int .i64 r.l] w (GrowI (opV 15 a b r) w) := by
 have hn := zh (show ∀ W, Calls Tryz.prog 194 #[.int .i64 15] W (RetI 1 W) from fun W => zAR W 15)
 obtain ⟨⟨m1, m2⟩, ⟨g1, g2⟩, ⟨c1, c2⟩, l1, l2⟩ := hr
 rw [show Opn.val ⟨15, a, b⟩ = .agg #[.int .i64 15, .int .i64 a, .int .i64 b] from rfl]
 rcases hA : inB 0 (r.c - 1) a with _ | _
 ·have hv := zh (zA4 (k := 15) (b := b) (r := r) ((zA0 r.c a).symm.trans hA)).symm
  have hin := zh (fun W => zAX hA W)
  clear hA
  rcases hB : (b == 0) with _ | _
  all_goals
   go_enter Tryz.func136, Tryz.ntmps136
   go_wp2_with (go_at_call 194; refine (hn.out _).mono ?_; rintro e w' ⟨rfl, rfl⟩)
   go_quiet (fail)
   go_wp2_with (go_at_call 198; refine (hin.out _).mono ?_; rintro e w' ⟨rfl, rfl⟩)
   go_ret
   exact ⟨zAI hv.out, ((Only.refl _ w).alloc _).drewN _⟩
 ·have toA := zh (show inB (loA 15) (hiA 15 r) a = true from ((zA0 r.c a).symm.trans hA))
  have hin := zh (fun W => zAX hA W)
  clear hA
  rcases hB : (b == 0) with _ | _
  ·have hv := zh (zBB (k := 15) (a := a) (r := r) ((zAU b).trans hB)).symm
   go_enter Tryz.func136, Tryz.ntmps136
   go_wp2_with (go_at_call 194; refine (hn.out _).mono ?_; rintro e w' ⟨rfl, rfl⟩)
   go_quiet (fail)
   go_wp2_with (go_at_call 198; refine (hin.out _).mono ?_; rintro e w' ⟨rfl, rfl⟩)
   go_ret
   exact ⟨zAI hv.out, ((Only.refl _ w).alloc _).drewN _⟩
  ·have hv := zh (zBA (k := 15) (r := r) toA.out ((zAU b).trans hB)).symm
   go_enter Tryz.func136, Tryz.ntmps136
   go_wp2_with (go_at_call 194; refine (hn.out _).mono ?_; rintro e w' ⟨rfl, rfl⟩)
   go_quiet (fail)
   go_wp2_with (go_at_call 198; refine (hin.out _).mono ?_; rintro e w' ⟨rfl, rfl⟩)
   go_ret
   exact ⟨zAI hv.out, ((Only.refl _ w).alloc _).drewN _⟩
theorem zQW (w : World) (o : Opn) (r : jF) (hr : r.ok) : Calls Tryz.prog 136 #[o.val, .int .i64 r.m, .int .i64 r.g, .int .i64 r.c, .int .i64 r.l] w (GrowI (opZ o r) w) := by
 obtain ⟨k, a, b⟩ := o
 by_cases hk : k < 1 ∨ 15 < k
 ·have := zOL w ⟨k, a, b⟩ r.m r.g r.c r.l hk
  rwa [show opZ ⟨k, a, b⟩ r = 1 by unfold opZ; rw [if_pos hk]]
 ·have e : ∀ n : Nat, k = n -> opZ ⟨k, a, b⟩ r = opV n a b r := fun n hn => by subst hn; unfold opZ; rw [if_neg hk]; rfl
  rcases kinds hk with rfl | rfl | rfl | rfl | rfl | rfl | rfl | rfl | rfl | rfl | rfl | rfl | rfl | rfl | rfl
  ·rw [e 1 rfl]; exact zT2 w a b r hr
  ·rw [e 2 rfl]; exact zT3 w a b r hr
  ·rw [e 3 rfl]; exact zT4 w a b r hr
  ·rw [e 4 rfl]; exact zT5 w a b r hr
  ·rw [e 5 rfl]; exact zT6 w a b r hr
  ·rw [e 6 rfl]; exact zT7 w a b r hr
  ·rw [e 7 rfl]; exact zT8 w a b r hr
  ·rw [e 8 rfl]; exact zT9 w a b r hr
  ·rw [e 9 rfl]; exact zUA w a b r hr
  ·rw [e 10 rfl]; exact zSZ w a b r hr
  ·rw [e 11 rfl]; exact zS0 w a b r hr
  ·rw [e 12 rfl]; exact zS1 w a b r hr
  ·rw [e 13 rfl]; exact zS2 w a b r hr
  ·rw [e 14 rfl]; exact zS3 w a b r hr
  ·rw [e 15 rfl]; exact zS4 w a b r hr
