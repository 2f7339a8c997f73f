import Derived.Test.YtlbdjiiddofkgaaGreatDoorC30
set_option maxRecDepth 100000
namespace Go.Proofs.YtlbdjiiddofkgaaGreatDoor
namespace Krn
open Go Go.RowKit Go.Maps Ring Band
section
variable {w w' : World} {c : KC} {m : KM} {s : KS} {i : Nat}
set_option maxHeartbeats 1000000 in
theorem zTA (h : KAt w c m s) (b : Int) (hi : i < c.nl) (who : Nat) : Calls Tryz.prog 164 #[ptr m.k, .agg #[.int .i64 5, .int .i64 i, .int .i64 b], .int .i64 who] w (KEnd w c m (opF c s ⟨5, i, b⟩ who).1 (.tuple #[.agg #[.int .i64 0, .int .i64 8, .int .i64 0, .int .i64 0, .int .i64 5, .int .i64 (opF c s ⟨5, i, b⟩ who).2.1, .int .i64 0], .bool true])) := by
 obtain ⟨X, hX⟩ : ∃ X, X = w.heap.size := ⟨_, rfl⟩
 obtain ⟨W, hW⟩ : ∃ W, W = ((w.alloc (.cells #[.int .i64 5, .int .i64 i, .int .i64 b] 94)).alloc (.cells #[.int .i64 0, .int .i64 0, .int .i64 0, .int .i64 0, .int .i64 0, .int .i64 0, .int .i64 0] 60)).alloc (.cells #[.int .i64 0, .int .i64 8, .int .i64 0, .int .i64 0, .int .i64 5, .int .i64 0, .int .i64 0] 60) := ⟨_, rfl⟩
 have hO : Only (fun _ => False) w W := by rw [hW]; exact (((Only.refl _ w).alloc _).alloc _).alloc _
 have hs : W.heap.size = X + 3 := by rw [hW, hX]; simp
 have hx0 : W.heap[X]? = some (.cells [Value.int .i64 5, .int .i64 i, .int .i64 b].toArray 94 (0, 0)) := by rw [hW]; exact zAF (zAF (zAB w _ hX.symm) _) _
 have hx1 : W.heap[X + 1]? = some (.cells [Value.int .i64 0, .int .i64 0, .int .i64 0, .int .i64 0, .int .i64 0, .int .i64 0, .int .i64 0].toArray 60 (0, 0)) := by rw [hW]; exact zAF (zAB _ _ (by rw [hX]; simp)) _
 have hx2 : W.heap[X + 1 + 1]? = some (.cells [Value.int .i64 0, .int .i64 8, .int .i64 0, .int .i64 0, .int .i64 5, .int .i64 0, .int .i64 0].toArray 60 (0, 0)) := by rw [hW]; exact zAB _ _ (by rw [hX]; simp)
 have jG := zh (fun nq => zO0 (h.new (hO.drewN nq)) b hi who)
 have jE := zh (fun nq (w1 w2 : World) (hk : KNow (W.drewN nq) c m (opF c s ⟨5, i, b⟩ who).1 w1) (ho : Only (fun k => k = X + 1 ∨ k = X + 1 + 1) w1 w2) => KNow.locs h hk (hO.drewN nq) (fun x hx => by show _ /\ x < W.heap.size; rcases hx with rfl | rfl <;> omega) ho)
 have jC := zh (fun nq (w1 : World) (hk : KNow (W.drewN nq) c m (opF c s ⟨5, i, b⟩ who).1 w1) => And.intro (hk.keep h (X := X + 1) hx1 (by omega)) (hk.keep h (X := X + 1 + 1) hx2 (by omega)))
 have cR := hO.cell (zAA h.root (i := 3) rfl) id
 have hlt := Nat.lt_of_lt_of_le (h.lt 0 m.k rfl).1 hO.size
 have x0 := zAA hx0 (i := 0) rfl
 have x1 := zAA hx0 (i := 1) rfl
 have x2 := zAA hx0 (i := 2) rfl
 have xl := zAG hx0
 obtain ⟨Z, hZ⟩ : ∃ Z, Z = (opF c s ⟨5, i, b⟩ who) := ⟨_, rfl⟩
 rw [<- hZ] at jG jE jC ⊢
 obtain ⟨Z1, Z2, Z3⟩ := Z
 dsimp only at jG jE jC ⊢
 unfold ptr KEnd KEndR at *
 have hX' := zh hX
 have hW' := zh hW
 clear h hO hs hx0 hx1 hx2 hX hW hZ hi
 go_enter Tryz.func164, Tryz.ntmps164
 go_upto_region 5 with fail
 rw [<- hX'.out]
 rw [<- hW'.out]
 refine zAD 7 (by kernel_rfl) (by kernel_rfl) ?_
 simp only [List.take_succ_cons, List.take_zero, List.drop_succ_cons, List.drop_zero]
 repeat (go_big_quiet_step (fail))
 refine wpQuiet_nil ?_
 rintro _ ⟨nq, rfl⟩
 go_wp2_with fail
 refine (jG.out nq).mono ?_
 rintro e1 w1 ⟨rfl, hk, -⟩
 obtain ⟨g1, g2⟩ := jC.out nq w1 hk
 have y0 := zAA g1 (i := 0) rfl
 have y1 := zAA g1 (i := 1) rfl
 have y2 := zAA g1 (i := 2) rfl
 have y3 := zAA g1 (i := 3) rfl
 have y4 := zAA g1 (i := 4) rfl
 have y5 := zAA g1 (i := 5) rfl
 have y6 := zAA g1 (i := 6) rfl
 have yl := zAG g1
 have yf0 := zAC g1 0
 have yf1 := zAC g1 1
 have yf2 := zAC g1 2
 have yf3 := zAC g1 3
 have yf4 := zAC g1 4
 have yf5 := zAC g1 5
 have yf6 := zAC g1 6
 have z0 := zAA g2 (i := 0) rfl
 have z1 := zAA g2 (i := 1) rfl
 have z2 := zAA g2 (i := 2) rfl
 have z3 := zAA g2 (i := 3) rfl
 have z4 := zAA g2 (i := 4) rfl
 have z5 := zAA g2 (i := 5) rfl
 have z6 := zAA g2 (i := 6) rfl
 have zf5 := zAC g2 5
 have zf6 := zAC g2 6
 have zl := zAG g2
 have kG := zh (fun w2 ho => jE.out nq w1 w2 hk ho)
 have hg1 := zh g1
 clear g1 g2 hk
 go_wp2
 obtain ⟨W9, hW9⟩ : ∃ W9, W9 = (((((((w1.setCell ⟨X + 1 + 1, 5, none⟩ (.int .i64 Z2)).setCell ⟨X + 1, 0, none⟩ (.int .i64 0)).setCell ⟨X + 1, 1, none⟩ (.int .i64 8)).setCell ⟨X + 1, 2, none⟩ (.int .i64 0)).setCell ⟨X + 1, 3, none⟩ (.int .i64 0)).setCell ⟨X + 1, 4, none⟩ (.int .i64 5)).setCell ⟨X + 1, 5, none⟩ (.int .i64 Z2)).setCell ⟨X + 1, 6, none⟩ (.int .i64 0) := ⟨_, rfl⟩
 have hR9 : W9.heap[X + 1]? = some (.cells [Value.int .i64 0, .int .i64 8, .int .i64 0, .int .i64 0, .int .i64 5, .int .i64 Z2, .int .i64 0].toArray 60 (0, 0)) := by
  rw [hW9]
  exact zAE (zAE (zAE (zAE (zAE (zAE (zAE (zAH hg1.out (by simp) _) 0 _) 1 _) 2 _) 3 _) 4 _) 5 _) 6 _
 have hO9 : Only (fun k => k = X + 1 ∨ k = X + 1 + 1) w1 W9 := by
  rw [hW9]
  exact (((((((((Only.refl (fun k => k = X + 1 ∨ k = X + 1 + 1) w1).setCell (p := ⟨X + 1 + 1, 5, none⟩) (fun _ => .inr rfl) _).setCell (p := ⟨X + 1, 0, none⟩) (fun _ => .inl rfl) _).setCell (p := ⟨X + 1, 1, none⟩) (fun _ => .inl rfl) _).setCell (p := ⟨X + 1, 2, none⟩) (fun _ => .inl rfl) _).setCell (p := ⟨X + 1, 3, none⟩) (fun _ => .inl rfl) _).setCell (p := ⟨X + 1, 4, none⟩) (fun _ => .inl rfl) _).setCell (p := ⟨X + 1, 5, none⟩) (fun _ => .inl rfl) _).setCell (p := ⟨X + 1, 6, none⟩) (fun _ => .inl rfl) _)
 simp only [<- hW9]
 have r0 := zAA hR9 (i := 0) rfl
 have r1 := zAA hR9 (i := 1) rfl
 have r2 := zAA hR9 (i := 2) rfl
 have r3 := zAA hR9 (i := 3) rfl
 have r4 := zAA hR9 (i := 4) rfl
 have r5 := zAA hR9 (i := 5) rfl
 have r6 := zAA hR9 (i := 6) rfl
 exact bodyPost_ret (v := .tuple #[.agg #[.int .i64 0, .int .i64 8, .int .i64 0, .int .i64 0, .int .i64 5, .int .i64 Z2, .int .i64 0], .bool true]) (by simp [results, Tryz.results164, go_sem, r0, r1, r2, r3, r4, r5, r6]) rfl ⟨rfl, kG.out _ hO9⟩
set_option maxHeartbeats 1000000 in
theorem zTB (h : KAt w c m s) (b : Int) (hi : i < c.nl) (who : Nat) : Calls Tryz.prog 164 #[ptr m.k, .agg #[.int .i64 6, .int .i64 i, .int .i64 b], .int .i64 who] w (KEnd w c m (opF c s ⟨6, i, b⟩ who).1 (.tuple #[.agg #[.int .i64 0, .int .i64 8, .int .i64 0, .int .i64 0, .int .i64 6, .int .i64 (opF c s ⟨6, i, b⟩ who).2.1, .int .i64 0], .bool true])) := by
 obtain ⟨X, hX⟩ : ∃ X, X = w.heap.size := ⟨_, rfl⟩
 obtain ⟨W, hW⟩ : ∃ W, W = ((w.alloc (.cells #[.int .i64 6, .int .i64 i, .int .i64 b] 94)).alloc (.cells #[.int .i64 0, .int .i64 0, .int .i64 0, .int .i64 0, .int .i64 0, .int .i64 0, .int .i64 0] 60)).alloc (.cells #[.int .i64 0, .int .i64 8, .int .i64 0, .int .i64 0, .int .i64 6, .int .i64 0, .int .i64 0] 60) := ⟨_, rfl⟩
 have hO : Only (fun _ => False) w W := by rw [hW]; exact (((Only.refl _ w).alloc _).alloc _).alloc _
 have hs : W.heap.size = X + 3 := by rw [hW, hX]; simp
 have hx0 : W.heap[X]? = some (.cells [Value.int .i64 6, .int .i64 i, .int .i64 b].toArray 94 (0, 0)) := by rw [hW]; exact zAF (zAF (zAB w _ hX.symm) _) _
 have hx1 : W.heap[X + 1]? = some (.cells [Value.int .i64 0, .int .i64 0, .int .i64 0, .int .i64 0, .int .i64 0, .int .i64 0, .int .i64 0].toArray 60 (0, 0)) := by rw [hW]; exact zAF (zAB _ _ (by rw [hX]; simp)) _
 have hx2 : W.heap[X + 1 + 1]? = some (.cells [Value.int .i64 0, .int .i64 8, .int .i64 0, .int .i64 0, .int .i64 6, .int .i64 0, .int .i64 0].toArray 60 (0, 0)) := by rw [hW]; exact zAB _ _ (by rw [hX]; simp)
 have jG := zh (fun nq => zKY (h.new (hO.drewN nq)) b hi who)
 have jE := zh (fun nq (w1 w2 : World) (hk : KNow (W.drewN nq) c m (opF c s ⟨6, i, b⟩ who).1 w1) (ho : Only (fun k => k = X + 1 ∨ k = X + 1 + 1) w1 w2) => KNow.locs h hk (hO.drewN nq) (fun x hx => by show _ /\ x < W.heap.size; rcases hx with rfl | rfl <;> omega) ho)
 have jC := zh (fun nq (w1 : World) (hk : KNow (W.drewN nq) c m (opF c s ⟨6, i, b⟩ who).1 w1) => And.intro (hk.keep h (X := X + 1) hx1 (by omega)) (hk.keep h (X := X + 1 + 1) hx2 (by omega)))
 have cR := hO.cell (zAA h.root (i := 3) rfl) id
 have hlt := Nat.lt_of_lt_of_le (h.lt 0 m.k rfl).1 hO.size
 have x0 := zAA hx0 (i := 0) rfl
 have x1 := zAA hx0 (i := 1) rfl
 have x2 := zAA hx0 (i := 2) rfl
 have xl := zAG hx0
 obtain ⟨Z, hZ⟩ : ∃ Z, Z = (opF c s ⟨6, i, b⟩ who) := ⟨_, rfl⟩
 rw [<- hZ] at jG jE jC ⊢
 obtain ⟨Z1, Z2, Z3⟩ := Z
 dsimp only at jG jE jC ⊢
 unfold ptr KEnd KEndR at *
 have hX' := zh hX
 have hW' := zh hW
 clear h hO hs hx0 hx1 hx2 hX hW hZ hi
 go_enter Tryz.func164, Tryz.ntmps164
 go_upto_region 7 with fail
 rw [<- hX'.out]
 rw [<- hW'.out]
 refine zAD 7 (by kernel_rfl) (by kernel_rfl) ?_
 simp only [List.take_succ_cons, List.take_zero, List.drop_succ_cons, List.drop_zero]
 repeat (go_big_quiet_step (fail))
 refine wpQuiet_nil ?_
 rintro _ ⟨nq, rfl⟩
 go_wp2_with fail
 refine (jG.out nq).mono ?_
 rintro e1 w1 ⟨rfl, hk, -⟩
 obtain ⟨g1, g2⟩ := jC.out nq w1 hk
 have y0 := zAA g1 (i := 0) rfl
 have y1 := zAA g1 (i := 1) rfl
 have y2 := zAA g1 (i := 2) rfl
 have y3 := zAA g1 (i := 3) rfl
 have y4 := zAA g1 (i := 4) rfl
 have y5 := zAA g1 (i := 5) rfl
 have y6 := zAA g1 (i := 6) rfl
 have yl := zAG g1
 have yf0 := zAC g1 0
 have yf1 := zAC g1 1
 have yf2 := zAC g1 2
 have yf3 := zAC g1 3
 have yf4 := zAC g1 4
 have yf5 := zAC g1 5
 have yf6 := zAC g1 6
 have z0 := zAA g2 (i := 0) rfl
 have z1 := zAA g2 (i := 1) rfl
 have z2 := zAA g2 (i := 2) rfl
 have z3 := zAA g2 (i := 3) rfl
 have z4 := zAA g2 (i := 4) rfl
 have z5 := zAA g2 (i := 5) rfl
 have z6 := zAA g2 (i := 6) rfl
 have zf5 := zAC g2 5
 have zf6 := zAC g2 6
 have zl := zAG g2
 have kG := zh (fun w2 ho => jE.out nq w1 w2 hk ho)
 have hg1 := zh g1
 clear g1 g2 hk
 go_wp2
 obtain ⟨W9, hW9⟩ : ∃ W9, W9 = (((((((w1.setCell ⟨X + 1 + 1, 5, none⟩ (.int .i64 Z2)).setCell ⟨X + 1, 0, none⟩ (.int .i64 0)).setCell ⟨X + 1, 1, none⟩ (.int .i64 8)).setCell ⟨X + 1, 2, none⟩ (.int .i64 0)).setCell ⟨X + 1, 3, none⟩ (.int .i64 0)).setCell ⟨X + 1, 4, none⟩ (.int .i64 6)).setCell ⟨X + 1, 5, none⟩ (.int .i64 Z2)).setCell ⟨X + 1, 6, none⟩ (.int .i64 0) := ⟨_, rfl⟩
 have hR9 : W9.heap[X + 1]? = some (.cells [Value.int .i64 0, .int .i64 8, .int .i64 0, .int .i64 0, .int .i64 6, .int .i64 Z2, .int .i64 0].toArray 60 (0, 0)) := by
  rw [hW9]
  exact zAE (zAE (zAE (zAE (zAE (zAE (zAE (zAH hg1.out (by simp) _) 0 _) 1 _) 2 _) 3 _) 4 _) 5 _) 6 _
 have hO9 : Only (fun k => k = X + 1 ∨ k = X + 1 + 1) w1 W9 := by
  rw [hW9]
  exact (((((((((Only.refl (fun k => k = X + 1 ∨ k = X + 1 + 1) w1).setCell (p := ⟨X + 1 + 1, 5, none⟩) (fun _ => .inr rfl) _).setCell (p := ⟨X + 1, 0, none⟩) (fun _ => .inl rfl) _).setCell (p := ⟨X + 1, 1, none⟩) (fun _ => .inl rfl) _).setCell (p := ⟨X + 1, 2, none⟩) (fun _ => .inl rfl) _).setCell (p := ⟨X + 1, 3, none⟩) (fun _ => .inl rfl) _).setCell (p := ⟨X + 1, 4, none⟩) (fun _ => .inl rfl) _).setCell (p := ⟨X + 1, 5, none⟩) (fun _ => .inl rfl) _).setCell (p := ⟨X + 1, 6, none⟩) (fun _ => .inl rfl) _)
 simp only [<- hW9]
 have r0 := zAA hR9 (i := 0) rfl
 have r1 := zAA hR9 (i := 1) rfl
 have r2 := zAA hR9 (i := 2) rfl
 have r3 := zAA hR9 (i := 3) rfl
 have r4 := zAA hR9 (i := 4) rfl
 have r5 := zAA hR9 (i := 5) rfl
 have r6 := zAA hR9 (i := 6) rfl
 exact bodyPost_ret (v := .tuple #[.agg #[.int .i64 0, .int .i64 8, .int .i64 0, .int .i64 0, .int .i64 6, .int .i64 Z2, .int .i64 0], .bool true]) (by simp [results, Tryz.results164, go_sem, r0, r1, r2, r3, r4, r5, r6]) rfl ⟨rfl, kG.out _ hO9⟩
set_option maxHeartbeats 1000000 in
theorem zTC (h : KAt w c m s) (b : Int) (hi : i < c.nb) (who : Nat) : Calls Tryz.prog 164 #[ptr m.k, .agg #[.int .i64 9, .int .i64 i, .int .i64 b], .int .i64 who] w (KEnd w c m (opF c s ⟨9, i, b⟩ who).1 (.tuple #[.agg #[.int .i64 0, .int .i64 8, .int .i64 0, .int .i64 0, .int .i64 9, .int .i64 (opF c s ⟨9, i, b⟩ who).2.1, .int .i64 0], .bool true])) := by
 obtain ⟨X, hX⟩ : ∃ X, X = w.heap.size := ⟨_, rfl⟩
 obtain ⟨W, hW⟩ : ∃ W, W = ((w.alloc (.cells #[.int .i64 9, .int .i64 i, .int .i64 b] 94)).alloc (.cells #[.int .i64 0, .int .i64 0, .int .i64 0, .int .i64 0, .int .i64 0, .int .i64 0, .int .i64 0] 60)).alloc (.cells #[.int .i64 0, .int .i64 8, .int .i64 0, .int .i64 0, .int .i64 9, .int .i64 0, .int .i64 0] 60) := ⟨_, rfl⟩
 have hO : Only (fun _ => False) w W := by rw [hW]; exact (((Only.refl _ w).alloc _).alloc _).alloc _
 have hs : W.heap.size = X + 3 := by rw [hW, hX]; simp
 have hx0 : W.heap[X]? = some (.cells [Value.int .i64 9, .int .i64 i, .int .i64 b].toArray 94 (0, 0)) := by rw [hW]; exact zAF (zAF (zAB w _ hX.symm) _) _
 have hx1 : W.heap[X + 1]? = some (.cells [Value.int .i64 0, .int .i64 0, .int .i64 0, .int .i64 0, .int .i64 0, .int .i64 0, .int .i64 0].toArray 60 (0, 0)) := by rw [hW]; exact zAF (zAB _ _ (by rw [hX]; simp)) _
 have hx2 : W.heap[X + 1 + 1]? = some (.cells [Value.int .i64 0, .int .i64 8, .int .i64 0, .int .i64 0, .int .i64 9, .int .i64 0, .int .i64 0].toArray 60 (0, 0)) := by rw [hW]; exact zAB _ _ (by rw [hX]; simp)
 have jG := zh (fun nq => zO2 (h.new (hO.drewN nq)) b hi who)
 have jE := zh (fun nq (w1 w2 : World) (hk : KNow (W.drewN nq) c m (opF c s ⟨9, i, b⟩ who).1 w1) (ho : Only (fun k => k = X + 1 ∨ k = X + 1 + 1) w1 w2) => KNow.locs h hk (hO.drewN nq) (fun x hx => by show _ /\ x < W.heap.size; rcases hx with rfl | rfl <;> omega) ho)
 have jC := zh (fun nq (w1 : World) (hk : KNow (W.drewN nq) c m (opF c s ⟨9, i, b⟩ who).1 w1) => And.intro (hk.keep h (X := X + 1) hx1 (by omega)) (hk.keep h (X := X + 1 + 1) hx2 (by omega)))
 have cR := hO.cell (zAA h.root (i := 0) rfl) id
 have hlt := Nat.lt_of_lt_of_le (h.lt 0 m.k rfl).1 hO.size
 have x0 := zAA hx0 (i := 0) rfl
 have x1 := zAA hx0 (i := 1) rfl
 have x2 := zAA hx0 (i := 2) rfl
 have xl := zAG hx0
 obtain ⟨Z, hZ⟩ : ∃ Z, Z = (opF c s ⟨9, i, b⟩ who) := ⟨_, rfl⟩
 rw [<- hZ] at jG jE jC ⊢
 obtain ⟨Z1, Z2, Z3⟩ := Z
 dsimp only at jG jE jC ⊢
 unfold ptr KEnd KEndR at *
 have hX' := zh hX
 have hW' := zh hW
 clear h hO hs hx0 hx1 hx2 hX hW hZ hi
 go_enter Tryz.func164, Tryz.ntmps164
 go_upto_region 9 with fail
 rw [<- hX'.out]
 rw [<- hW'.out]
 refine zAD 8 (by kernel_rfl) (by kernel_rfl) ?_
 simp only [List.take_succ_cons, List.take_zero, List.drop_succ_cons, List.drop_zero]
 repeat (go_big_quiet_step (fail))
 refine wpQuiet_nil ?_
 rintro _ ⟨nq, rfl⟩
 go_wp2_with fail
 refine (jG.out nq).mono ?_
 rintro e1 w1 ⟨rfl, hk, -⟩
 obtain ⟨g1, g2⟩ := jC.out nq w1 hk
 have y0 := zAA g1 (i := 0) rfl
 have y1 := zAA g1 (i := 1) rfl
 have y2 := zAA g1 (i := 2) rfl
 have y3 := zAA g1 (i := 3) rfl
 have y4 := zAA g1 (i := 4) rfl
 have y5 := zAA g1 (i := 5) rfl
 have y6 := zAA g1 (i := 6) rfl
 have yl := zAG g1
 have yf0 := zAC g1 0
 have yf1 := zAC g1 1
 have yf2 := zAC g1 2
 have yf3 := zAC g1 3
 have yf4 := zAC g1 4
 have yf5 := zAC g1 5
 have yf6 := zAC g1 6
 have z0 := zAA g2 (i := 0) rfl
 have z1 := zAA g2 (i := 1) rfl
 have z2 := zAA g2 (i := 2) rfl
 have z3 := zAA g2 (i := 3) rfl
 have z4 := zAA g2 (i := 4) rfl
 have z5 := zAA g2 (i := 5) rfl
 have z6 := zAA g2 (i := 6) rfl
 have zf5 := zAC g2 5
 have zf6 := zAC g2 6
 have zl := zAG g2
 have kG := zh (fun w2 ho => jE.out nq w1 w2 hk ho)
 have hg1 := zh g1
 clear g1 g2 hk
 go_wp2
 obtain ⟨W9, hW9⟩ : ∃ W9, W9 = (((((((w1.setCell ⟨X + 1 + 1, 5, none⟩ (.int .i64 Z2)).setCell ⟨X + 1, 0, none⟩ (.int .i64 0)).setCell ⟨X + 1, 1, none⟩ (.int .i64 8)).setCell ⟨X + 1, 2, none⟩ (.int .i64 0)).setCell ⟨X + 1, 3, none⟩ (.int .i64 0)).setCell ⟨X + 1, 4, none⟩ (.int .i64 9)).setCell ⟨X + 1, 5, none⟩ (.int .i64 Z2)).setCell ⟨X + 1, 6, none⟩ (.int .i64 0) := ⟨_, rfl⟩
 have hR9 : W9.heap[X + 1]? = some (.cells [Value.int .i64 0, .int .i64 8, .int .i64 0, .int .i64 0, .int .i64 9, .int .i64 Z2, .int .i64 0].toArray 60 (0, 0)) := by
  rw [hW9]
  exact zAE (zAE (zAE (zAE (zAE (zAE (zAE (zAH hg1.out (by simp) _) 0 _) 1 _) 2 _) 3 _) 4 _) 5 _) 6 _
 have hO9 : Only (fun k => k = X + 1 ∨ k = X + 1 + 1) w1 W9 := by
  rw [hW9]
  exact (((((((((Only.refl (fun k => k = X + 1 ∨ k = X + 1 + 1) w1).setCell (p := ⟨X + 1 + 1, 5, none⟩) (fun _ => .inr rfl) _).setCell (p := ⟨X + 1, 0, none⟩) (fun _ => .inl rfl) _).setCell (p := ⟨X + 1, 1, none⟩) (fun _ => .inl rfl) _).setCell (p := ⟨X + 1, 2, none⟩) (fun _ => .inl rfl) _).setCell (p := ⟨X + 1, 3, none⟩) (fun _ => .inl rfl) _).setCell (p := ⟨X + 1, 4, none⟩) (fun _ => .inl rfl) _).setCell (p := ⟨X + 1, 5, none⟩) (fun _ => .inl rfl) _).setCell (p := ⟨X + 1, 6, none⟩) (fun _ => .inl rfl) _)
 simp only [<- hW9]
 have r0 := zAA hR9 (i := 0) rfl
 have r1 := zAA hR9 (i := 1) rfl
 have r2 := zAA hR9 (i := 2) rfl
 have r3 := zAA hR9 (i := 3) rfl
 have r4 := zAA hR9 (i := 4) rfl
 have r5 := zAA hR9 (i := 5) rfl
 have r6 := zAA hR9 (i := 6) rfl
 exact bodyPost_ret (v := .tuple #[.agg #[.int .i64 0, .int .i64 8, .int .i64 0, .int .i64 0, .int .i64 9, .int .i64 Z2, .int .i64 0], .bool true]) (by simp [results, Tryz.results164, go_sem, r0, r1, r2, r3, r4, r5, r6]) rfl ⟨rfl, kG.out _ hO9⟩
set_option maxHeartbeats 1000000 in
theorem zRM (h : KAt w c m s) (b : Int) (hi : i < c.nb) (who : Nat) : Calls Tryz.prog 164 #[ptr m.k, .agg #[.int .i64 10, .int .i64 i, .int .i64 b], .int .i64 who] w (KEnd w c m (opF c s ⟨10, i, b⟩ who).1 (.tuple #[.agg #[.int .i64 0, .int .i64 8, .int .i64 0, .int .i64 0, .int .i64 10, .int .i64 (opF c s ⟨10, i, b⟩ who).2.1, .int .i64 (opF c s ⟨10, i, b⟩ who).2.2], .bool true])) := by
 obtain ⟨X, hX⟩ : ∃ X, X = w.heap.size := ⟨_, rfl⟩
 obtain ⟨W, hW⟩ : ∃ W, W = ((w.alloc (.cells #[.int .i64 10, .int .i64 i, .int .i64 b] 94)).alloc (.cells #[.int .i64 0, .int .i64 0, .int .i64 0, .int .i64 0, .int .i64 0, .int .i64 0, .int .i64 0] 60)).alloc (.cells #[.int .i64 0, .int .i64 8, .int .i64 0, .int .i64 0, .int .i64 10, .int .i64 0, .int .i64 0] 60) := ⟨_, rfl⟩
 have hO : Only (fun _ => False) w W := by rw [hW]; exact (((Only.refl _ w).alloc _).alloc _).alloc _
 have hs : W.heap.size = X + 3 := by rw [hW, hX]; simp
 have hx0 : W.heap[X]? = some (.cells [Value.int .i64 10, .int .i64 i, .int .i64 b].toArray 94 (0, 0)) := by rw [hW]; exact zAF (zAF (zAB w _ hX.symm) _) _
 have hx1 : W.heap[X + 1]? = some (.cells [Value.int .i64 0, .int .i64 0, .int .i64 0, .int .i64 0, .int .i64 0, .int .i64 0, .int .i64 0].toArray 60 (0, 0)) := by rw [hW]; exact zAF (zAB _ _ (by rw [hX]; simp)) _
 have hx2 : W.heap[X + 1 + 1]? = some (.cells [Value.int .i64 0, .int .i64 8, .int .i64 0, .int .i64 0, .int .i64 10, .int .i64 0, .int .i64 0].toArray 60 (0, 0)) := by rw [hW]; exact zAB _ _ (by rw [hX]; simp)
 have jG := zh (fun W' (hW' : Only (fun _ => False) W W') => zO3 (h.new (hO.trans' hW')) b hi who)
 have jE := zh (fun W' (w1 w2 : World) (hW' : Only (fun _ => False) W W') (hk : KNow W' c m (opF c s ⟨10, i, b⟩ who).1 w1) (ho : Only (fun k => k = X + 1 ∨ k = X + 1 + 1) w1 w2) => KNow.locs h hk (hO.trans' hW') (fun x hx => by have := hW'.size; rcases hx with rfl | rfl <;> omega) ho)
 have jC := zh (fun W' (w1 : World) (hW' : Only (fun _ => False) W W') (hk : KNow W' c m (opF c s ⟨10, i, b⟩ who).1 w1) (hr : ∀ j, w1.cell? ⟨m.k, j, none⟩ = W'.cell? ⟨m.k, j, none⟩) => And.intro (show w1.cell? ⟨m.k, 0, none⟩ = some (.pointer (some ⟨m.b1, 0, none⟩)) /\ w1.cell? ⟨X, 1, none⟩ = some (.int .i64 i) /\ w1.cell? ⟨X, 2, none⟩ = some (.int .i64 b) from ⟨(hr 0).trans ((hO.trans' hW').cell (zAA h.root (i := 0) rfl) id), zAA (hk.keep h (X := X) (hW'.heap hx0 id) (by omega)) (i := 1) rfl, zAA (hk.keep h (X := X) (hW'.heap hx0 id) (by omega)) (i := 2) rfl⟩) (And.intro (hk.keep h (X := X + 1) (hW'.heap hx1 id) (by omega)) (hk.keep h (X := X + 1 + 1) (hW'.heap hx2 id) (by omega))))
 have hS := zh (fun W' W'' (hP : W'.cell? ⟨m.k, 0, none⟩ = some (.pointer (some ⟨m.b1, 0, none⟩)) /\ W'.cell? ⟨X, 1, none⟩ = some (.int .i64 i) /\ W'.cell? ⟨X, 2, none⟩ = some (.int .i64 b)) (ho : Only (fun k => k = X + 1 ∨ k = X + 1 + 1) W' W'') => show W''.cell? ⟨m.k, 0, none⟩ = some (.pointer (some ⟨m.b1, 0, none⟩)) /\ W''.cell? ⟨X, 1, none⟩ = some (.int .i64 i) /\ W''.cell? ⟨X, 2, none⟩ = some (.int .i64 b) from ⟨ho.cell hP.1 (fun e => by have := (h.lt 0 m.k rfl).1; rcases e with e | e <;> have e' := e <;> simp only at e' <;> omega), ho.cell hP.2.1 (fun e => by rcases e with e | e <;> have e' := e <;> simp only at e' <;> omega), ho.cell hP.2.2 (fun e => by rcases e with e | e <;> have e' := e <;> simp only at e' <;> omega)⟩)
 have hP0 : W.cell? ⟨m.k, 0, none⟩ = some (.pointer (some ⟨m.b1, 0, none⟩)) /\ W.cell? ⟨X, 1, none⟩ = some (.int .i64 i) /\ W.cell? ⟨X, 2, none⟩ = some (.int .i64 b) := ⟨hO.cell (zAA h.root (i := 0) rfl) id, zAA hx0 (i := 1) rfl, zAA hx0 (i := 2) rfl⟩
 have cR := hO.cell (zAA h.root (i := 0) rfl) id
 have hlt := Nat.lt_of_lt_of_le (h.lt 0 m.k rfl).1 hO.size
 have x0 := zAA hx0 (i := 0) rfl
 have x1 := zAA hx0 (i := 1) rfl
 have x2 := zAA hx0 (i := 2) rfl
 have xl := zAG hx0
 obtain ⟨Z, hZ⟩ : ∃ Z, Z = (opF c s ⟨10, i, b⟩ who) := ⟨_, rfl⟩
 rw [<- hZ] at jG jE jC ⊢
 obtain ⟨Z1, Z2, Z3⟩ := Z
 dsimp only at jG jE jC ⊢
 unfold ptr KEnd KEndR at *
 have hX' := zh hX
 have hW' := zh hW
 clear h hO hs hx0 hx1 hx2 hX hW hZ hi
 go_enter Tryz.func164, Tryz.ntmps164
 go_upto_region 11 with fail
 rw [<- hX'.out]
 rw [<- hW'.out]
 go_region_held3 (fun W' => W'.cell? ⟨m.k, 0, none⟩ = some (.pointer (some ⟨m.b1, 0, none⟩)) /\ W'.cell? ⟨X, 1, none⟩ = some (.int .i64 i) /\ W'.cell? ⟨X, 2, none⟩ = some (.int .i64 b))
  (first
   | exact hS.out _ _ hP1 (by repeat (first | with_reducible exact Only.refl _ _ | with_reducible refine Only.setCell ?_ (p := ⟨X + 1 + 1, _, none⟩) (fun _ => .inr rfl) _ | with_reducible refine Only.setCell ?_ (p := ⟨X + 1, _, none⟩) (fun _ => .inl rfl) _ | with_reducible apply Only.drew))
   | exact hS.out _ _ hP0 (by repeat (first | with_reducible exact Only.refl _ _ | with_reducible refine Only.setCell ?_ (p := ⟨X + 1 + 1, _, none⟩) (fun _ => .inr rfl) _ | with_reducible refine Only.setCell ?_ (p := ⟨X + 1, _, none⟩) (fun _ => .inl rfl) _ | with_reducible apply Only.drew)))
  (first | (go_at_call 225; (with_reducible refine (jG.out _ (by repeat (first | exact Only.refl _ _ | apply Only.drew))).mono ?_); rintro _ w1 ⟨rfl, hk, hr⟩; obtain ⟨hP1, g1, g2⟩ := jC.out _ w1 (by repeat (first | exact Only.refl _ _ | apply Only.drew)) hk hr; have kG := zh (fun w2 ho => jE.out _ w1 w2 (by repeat (first | exact Only.refl _ _ | apply Only.drew)) hk ho); have y0 := zAA g1 (i := 0) rfl; have y1 := zAA g1 (i := 1) rfl; have y2 := zAA g1 (i := 2) rfl; have y3 := zAA g1 (i := 3) rfl; have y4 := zAA g1 (i := 4) rfl; have y5 := zAA g1 (i := 5) rfl; have y6 := zAA g1 (i := 6) rfl; have yf0 := zAC g1 0; have yf1 := zAC g1 1; have yf2 := zAC g1 2; have yf3 := zAC g1 3; have yf4 := zAC g1 4; have yf5 := zAC g1 5; have yf6 := zAC g1 6; have z0 := zAA g2 (i := 0) rfl; have z1 := zAA g2 (i := 1) rfl; have z2 := zAA g2 (i := 2) rfl; have z3 := zAA g2 (i := 3) rfl; have z4 := zAA g2 (i := 4) rfl; have z5 := zAA g2 (i := 5) rfl; have z6 := zAA g2 (i := 6) rfl; have zf5 := zAC g2 5; have zf6 := zAC g2 6; have yl := zAG g1; have zl := zAG g2; have hg1 := zh g1; clear g1 g2 hk hr))
 all_goals
  go_wp2
  obtain ⟨W9, hW9, hR9, hO9⟩ : ∃ W9, Hid (W9 = _) /\ W9.heap[X + 1]? = some (.cells [Value.int .i64 0, .int .i64 8, .int .i64 0, .int .i64 0, .int .i64 10, .int .i64 Z2, .int .i64 Z3].toArray 60 (0, 0)) /\ Only (fun k => k = X + 1 ∨ k = X + 1 + 1) w1 W9 := by
   first
    | exact ⟨(((((((((w1.setCell ⟨X + 1 + 1, 6, none⟩ (.int .i64 Z3)).setCell ⟨X + 1 + 1, 5, none⟩ (.int .i64 Z2)).setCell ⟨X + 1, 0, none⟩ (.int .i64 0)).setCell ⟨X + 1, 1, none⟩ (.int .i64 8)).setCell ⟨X + 1, 2, none⟩ (.int .i64 0)).setCell ⟨X + 1, 3, none⟩ (.int .i64 0)).setCell ⟨X + 1, 4, none⟩ (.int .i64 10)).setCell ⟨X + 1, 5, none⟩ (.int .i64 Z2)).setCell ⟨X + 1, 6, none⟩ (.int .i64 Z3)), rfl, zAE (zAE (zAE (zAE (zAE (zAE (zAE (zAH (zAH hg1.out (by simp) _) (by simp) _) 0 _) 1 _) 2 _) 3 _) 4 _) 5 _) 6 _, ((((((((((Only.refl (fun k => k = X + 1 ∨ k = X + 1 + 1) w1).setCell (p := ⟨X + 1 + 1, 6, none⟩) (fun _ => .inr rfl) _).setCell (p := ⟨X + 1 + 1, 5, none⟩) (fun _ => .inr rfl) _).setCell (p := ⟨X + 1, 0, none⟩) (fun _ => .inl rfl) _).setCell (p := ⟨X + 1, 1, none⟩) (fun _ => .inl rfl) _).setCell (p := ⟨X + 1, 2, none⟩) (fun _ => .inl rfl) _).setCell (p := ⟨X + 1, 3, none⟩) (fun _ => .inl rfl) _).setCell (p := ⟨X + 1, 4, none⟩) (fun _ => .inl rfl) _).setCell (p := ⟨X + 1, 5, none⟩) (fun _ => .inl rfl) _).setCell (p := ⟨X + 1, 6, none⟩) (fun _ => .inl rfl) _)⟩
    | exact ⟨(((((((((w1.setCell ⟨X + 1 + 1, 5, none⟩ (.int .i64 Z2)).setCell ⟨X + 1 + 1, 6, none⟩ (.int .i64 Z3)).setCell ⟨X + 1, 0, none⟩ (.int .i64 0)).setCell ⟨X + 1, 1, none⟩ (.int .i64 8)).setCell ⟨X + 1, 2, none⟩ (.int .i64 0)).setCell ⟨X + 1, 3, none⟩ (.int .i64 0)).setCell ⟨X + 1, 4, none⟩ (.int .i64 10)).setCell ⟨X + 1, 5, none⟩ (.int .i64 Z2)).setCell ⟨X + 1, 6, none⟩ (.int .i64 Z3)), rfl, zAE (zAE (zAE (zAE (zAE (zAE (zAE (zAH (zAH hg1.out (by simp) _) (by simp) _) 0 _) 1 _) 2 _) 3 _) 4 _) 5 _) 6 _, ((((((((((Only.refl (fun k => k = X + 1 ∨ k = X + 1 + 1) w1).setCell (p := ⟨X + 1 + 1, 5, none⟩) (fun _ => .inr rfl) _).setCell (p := ⟨X + 1 + 1, 6, none⟩) (fun _ => .inr rfl) _).setCell (p := ⟨X + 1, 0, none⟩) (fun _ => .inl rfl) _).setCell (p := ⟨X + 1, 1, none⟩) (fun _ => .inl rfl) _).setCell (p := ⟨X + 1, 2, none⟩) (fun _ => .inl rfl) _).setCell (p := ⟨X + 1, 3, none⟩) (fun _ => .inl rfl) _).setCell (p := ⟨X + 1, 4, none⟩) (fun _ => .inl rfl) _).setCell (p := ⟨X + 1, 5, none⟩) (fun _ => .inl rfl) _).setCell (p := ⟨X + 1, 6, none⟩) (fun _ => .inl rfl) _)⟩
  have xT := hW9.out
  clear hW9
  simp only [<- xT]
  have r0 := zAA hR9 (i := 0) rfl
  have r1 := zAA hR9 (i := 1) rfl
  have r2 := zAA hR9 (i := 2) rfl
  have r3 := zAA hR9 (i := 3) rfl
  have r4 := zAA hR9 (i := 4) rfl
  have r5 := zAA hR9 (i := 5) rfl
  have r6 := zAA hR9 (i := 6) rfl
  exact bodyPost_ret (v := .tuple #[.agg #[.int .i64 0, .int .i64 8, .int .i64 0, .int .i64 0, .int .i64 10, .int .i64 Z2, .int .i64 Z3], .bool true]) (by simp [results, Tryz.results164, go_sem, r0, r1, r2, r3, r4, r5, r6]) rfl ⟨rfl, kG.out _ hO9⟩
set_option maxHeartbeats 1000000 in
theorem zRN (h : KAt w c m s) (b : Int) (hi : i < c.ng) (who : Nat) : Calls Tryz.prog 164 #[ptr m.k, .agg #[.int .i64 11, .int .i64 i, .int .i64 b], .int .i64 who] w (KEnd w c m (opF c s ⟨11, i, b⟩ who).1 (.tuple #[.agg #[.int .i64 0, .int .i64 8, .int .i64 0, .int .i64 0, .int .i64 11, .int .i64 (opF c s ⟨11, i, b⟩ who).2.1, .int .i64 (opF c s ⟨11, i, b⟩ who).2.2], .bool true])) := by
 obtain ⟨X, hX⟩ : ∃ X, X = w.heap.size := ⟨_, rfl⟩
 obtain ⟨W, hW⟩ : ∃ W, W = ((w.alloc (.cells #[.int .i64 11, .int .i64 i, .int .i64 b] 94)).alloc (.cells #[.int .i64 0, .int .i64 0, .int .i64 0, .int .i64 0, .int .i64 0, .int .i64 0, .int .i64 0] 60)).alloc (.cells #[.int .i64 0, .int .i64 8, .int .i64 0, .int .i64 0, .int .i64 11, .int .i64 0, .int .i64 0] 60) := ⟨_, rfl⟩
 have hO : Only (fun _ => False) w W := by rw [hW]; exact (((Only.refl _ w).alloc _).alloc _).alloc _
 have hs : W.heap.size = X + 3 := by rw [hW, hX]; simp
 have hx0 : W.heap[X]? = some (.cells [Value.int .i64 11, .int .i64 i, .int .i64 b].toArray 94 (0, 0)) := by rw [hW]; exact zAF (zAF (zAB w _ hX.symm) _) _
 have hx1 : W.heap[X + 1]? = some (.cells [Value.int .i64 0, .int .i64 0, .int .i64 0, .int .i64 0, .int .i64 0, .int .i64 0, .int .i64 0].toArray 60 (0, 0)) := by rw [hW]; exact zAF (zAB _ _ (by rw [hX]; simp)) _
 have hx2 : W.heap[X + 1 + 1]? = some (.cells [Value.int .i64 0, .int .i64 8, .int .i64 0, .int .i64 0, .int .i64 11, .int .i64 0, .int .i64 0].toArray 60 (0, 0)) := by rw [hW]; exact zAB _ _ (by rw [hX]; simp)
 have jG := zh (fun W' (hW' : Only (fun _ => False) W W') => zRL (h.new (hO.trans' hW')) b hi who)
 have jE := zh (fun W' (w1 w2 : World) (hW' : Only (fun _ => False) W W') (hk : KNow W' c m (opF c s ⟨11, i, b⟩ who).1 w1) (ho : Only (fun k => k = X + 1 ∨ k = X + 1 + 1) w1 w2) => KNow.locs h hk (hO.trans' hW') (fun x hx => by have := hW'.size; rcases hx with rfl | rfl <;> omega) ho)
 have jC := zh (fun W' (w1 : World) (hW' : Only (fun _ => False) W W') (hk : KNow W' c m (opF c s ⟨11, i, b⟩ who).1 w1) (hr : ∀ j, w1.cell? ⟨m.k, j, none⟩ = W'.cell? ⟨m.k, j, none⟩) => And.intro (show w1.cell? ⟨m.k, 1, none⟩ = some (.pointer (some ⟨m.b2, 0, none⟩)) /\ w1.cell? ⟨X, 1, none⟩ = some (.int .i64 i) /\ w1.cell? ⟨X, 2, none⟩ = some (.int .i64 b) from ⟨(hr 1).trans ((hO.trans' hW').cell (zAA h.root (i := 1) rfl) id), zAA (hk.keep h (X := X) (hW'.heap hx0 id) (by omega)) (i := 1) rfl, zAA (hk.keep h (X := X) (hW'.heap hx0 id) (by omega)) (i := 2) rfl⟩) (And.intro (hk.keep h (X := X + 1) (hW'.heap hx1 id) (by omega)) (hk.keep h (X := X + 1 + 1) (hW'.heap hx2 id) (by omega))))
 have hS := zh (fun W' W'' (hP : W'.cell? ⟨m.k, 1, none⟩ = some (.pointer (some ⟨m.b2, 0, none⟩)) /\ W'.cell? ⟨X, 1, none⟩ = some (.int .i64 i) /\ W'.cell? ⟨X, 2, none⟩ = some (.int .i64 b)) (ho : Only (fun k => k = X + 1 ∨ k = X + 1 + 1) W' W'') => show W''.cell? ⟨m.k, 1, none⟩ = some (.pointer (some ⟨m.b2, 0, none⟩)) /\ W''.cell? ⟨X, 1, none⟩ = some (.int .i64 i) /\ W''.cell? ⟨X, 2, none⟩ = some (.int .i64 b) from ⟨ho.cell hP.1 (fun e => by have := (h.lt 0 m.k rfl).1; rcases e with e | e <;> have e' := e <;> simp only at e' <;> omega), ho.cell hP.2.1 (fun e => by rcases e with e | e <;> have e' := e <;> simp only at e' <;> omega), ho.cell hP.2.2 (fun e => by rcases e with e | e <;> have e' := e <;> simp only at e' <;> omega)⟩)
 have hP0 : W.cell? ⟨m.k, 1, none⟩ = some (.pointer (some ⟨m.b2, 0, none⟩)) /\ W.cell? ⟨X, 1, none⟩ = some (.int .i64 i) /\ W.cell? ⟨X, 2, none⟩ = some (.int .i64 b) := ⟨hO.cell (zAA h.root (i := 1) rfl) id, zAA hx0 (i := 1) rfl, zAA hx0 (i := 2) rfl⟩
 have cR := hO.cell (zAA h.root (i := 1) rfl) id
 have hlt := Nat.lt_of_lt_of_le (h.lt 0 m.k rfl).1 hO.size
 have x0 := zAA hx0 (i := 0) rfl
 have x1 := zAA hx0 (i := 1) rfl
 have x2 := zAA hx0 (i := 2) rfl
 have xl := zAG hx0
 obtain ⟨Z, hZ⟩ : ∃ Z, Z = (opF c s ⟨11, i, b⟩ who) := ⟨_, rfl⟩
 rw [<- hZ] at jG jE jC ⊢
 obtain ⟨Z1, Z2, Z3⟩ := Z
 dsimp only at jG jE jC ⊢
 unfold ptr KEnd KEndR at *
 have hX' := zh hX
 have hW' := zh hW
 clear h hO hs hx0 hx1 hx2 hX hW hZ hi
 go_enter Tryz.func164, Tryz.ntmps164
 go_upto_region 13 with fail
 rw [<- hX'.out]
 rw [<- hW'.out]
 go_region_held3 (fun W' => W'.cell? ⟨m.k, 1, none⟩ = some (.pointer (some ⟨m.b2, 0, none⟩)) /\ W'.cell? ⟨X, 1, none⟩ = some (.int .i64 i) /\ W'.cell? ⟨X, 2, none⟩ = some (.int .i64 b))
  (first
   | exact hS.out _ _ hP1 (by repeat (first | with_reducible exact Only.refl _ _ | with_reducible refine Only.setCell ?_ (p := ⟨X + 1 + 1, _, none⟩) (fun _ => .inr rfl) _ | with_reducible refine Only.setCell ?_ (p := ⟨X + 1, _, none⟩) (fun _ => .inl rfl) _ | with_reducible apply Only.drew))
   | exact hS.out _ _ hP0 (by repeat (first | with_reducible exact Only.refl _ _ | with_reducible refine Only.setCell ?_ (p := ⟨X + 1 + 1, _, none⟩) (fun _ => .inr rfl) _ | with_reducible refine Only.setCell ?_ (p := ⟨X + 1, _, none⟩) (fun _ => .inl rfl) _ | with_reducible apply Only.drew)))
  (first | (go_at_call 226; (with_reducible refine (jG.out _ (by repeat (first | exact Only.refl _ _ | apply Only.drew))).mono ?_); rintro _ w1 ⟨rfl, hk, hr⟩; obtain ⟨hP1, g1, g2⟩ := jC.out _ w1 (by repeat (first | exact Only.refl _ _ | apply Only.drew)) hk hr; have kG := zh (fun w2 ho => jE.out _ w1 w2 (by repeat (first | exact Only.refl _ _ | apply Only.drew)) hk ho); have y0 := zAA g1 (i := 0) rfl; have y1 := zAA g1 (i := 1) rfl; have y2 := zAA g1 (i := 2) rfl; have y3 := zAA g1 (i := 3) rfl; have y4 := zAA g1 (i := 4) rfl; have y5 := zAA g1 (i := 5) rfl; have y6 := zAA g1 (i := 6) rfl; have yf0 := zAC g1 0; have yf1 := zAC g1 1; have yf2 := zAC g1 2; have yf3 := zAC g1 3; have yf4 := zAC g1 4; have yf5 := zAC g1 5; have yf6 := zAC g1 6; have z0 := zAA g2 (i := 0) rfl; have z1 := zAA g2 (i := 1) rfl; have z2 := zAA g2 (i := 2) rfl; have z3 := zAA g2 (i := 3) rfl; have z4 := zAA g2 (i := 4) rfl; have z5 := zAA g2 (i := 5) rfl; have z6 := zAA g2 (i := 6) rfl; have zf5 := zAC g2 5; have zf6 := zAC g2 6; have yl := zAG g1; have zl := zAG g2; have hg1 := zh g1; clear g1 g2 hk hr))
 all_goals
  go_wp2
  obtain ⟨W9, hW9, hR9, hO9⟩ : ∃ W9, Hid (W9 = _) /\ W9.heap[X + 1]? = some (.cells [Value.int .i64 0, .int .i64 8, .int .i64 0, .int .i64 0, .int .i64 11, .int .i64 Z2, .int .i64 Z3].toArray 60 (0, 0)) /\ Only (fun k => k = X + 1 ∨ k = X + 1 + 1) w1 W9 := by
   first
    | exact ⟨(((((((((w1.setCell ⟨X + 1 + 1, 6, none⟩ (.int .i64 Z3)).setCell ⟨X + 1 + 1, 5, none⟩ (.int .i64 Z2)).setCell ⟨X + 1, 0, none⟩ (.int .i64 0)).setCell ⟨X + 1, 1, none⟩ (.int .i64 8)).setCell ⟨X + 1, 2, none⟩ (.int .i64 0)).setCell ⟨X + 1, 3, none⟩ (.int .i64 0)).setCell ⟨X + 1, 4, none⟩ (.int .i64 11)).setCell ⟨X + 1, 5, none⟩ (.int .i64 Z2)).setCell ⟨X + 1, 6, none⟩ (.int .i64 Z3)), rfl, zAE (zAE (zAE (zAE (zAE (zAE (zAE (zAH (zAH hg1.out (by simp) _) (by simp) _) 0 _) 1 _) 2 _) 3 _) 4 _) 5 _) 6 _, ((((((((((Only.refl (fun k => k = X + 1 ∨ k = X + 1 + 1) w1).setCell (p := ⟨X + 1 + 1, 6, none⟩) (fun _ => .inr rfl) _).setCell (p := ⟨X + 1 + 1, 5, none⟩) (fun _ => .inr rfl) _).setCell (p := ⟨X + 1, 0, none⟩) (fun _ => .inl rfl) _).setCell (p := ⟨X + 1, 1, none⟩) (fun _ => .inl rfl) _).setCell (p := ⟨X + 1, 2, none⟩) (fun _ => .inl rfl) _).setCell (p := ⟨X + 1, 3, none⟩) (fun _ => .inl rfl) _).setCell (p := ⟨X + 1, 4, none⟩) (fun _ => .inl rfl) _).setCell (p := ⟨X + 1, 5, none⟩) (fun _ => .inl rfl) _).setCell (p := ⟨X + 1, 6, none⟩) (fun _ => .inl rfl) _)⟩
    | exact ⟨(((((((((w1.setCell ⟨X + 1 + 1, 5, none⟩ (.int .i64 Z2)).setCell ⟨X + 1 + 1, 6, none⟩ (.int .i64 Z3)).setCell ⟨X + 1, 0, none⟩ (.int .i64 0)).setCell ⟨X + 1, 1, none⟩ (.int .i64 8)).setCell ⟨X + 1, 2, none⟩ (.int .i64 0)).setCell ⟨X + 1, 3, none⟩ (.int .i64 0)).setCell ⟨X + 1, 4, none⟩ (.int .i64 11)).setCell ⟨X + 1, 5, none⟩ (.int .i64 Z2)).setCell ⟨X + 1, 6, none⟩ (.int .i64 Z3)), rfl, zAE (zAE (zAE (zAE (zAE (zAE (zAE (zAH (zAH hg1.out (by simp) _) (by simp) _) 0 _) 1 _) 2 _) 3 _) 4 _) 5 _) 6 _, ((((((((((Only.refl (fun k => k = X + 1 ∨ k = X + 1 + 1) w1).setCell (p := ⟨X + 1 + 1, 5, none⟩) (fun _ => .inr rfl) _).setCell (p := ⟨X + 1 + 1, 6, none⟩) (fun _ => .inr rfl) _).setCell (p := ⟨X + 1, 0, none⟩) (fun _ => .inl rfl) _).setCell (p := ⟨X + 1, 1, none⟩) (fun _ => .inl rfl) _).setCell (p := ⟨X + 1, 2, none⟩) (fun _ => .inl rfl) _).setCell (p := ⟨X + 1, 3, none⟩) (fun _ => .inl rfl) _).setCell (p := ⟨X + 1, 4, none⟩) (fun _ => .inl rfl) _).setCell (p := ⟨X + 1, 5, none⟩) (fun _ => .inl rfl) _).setCell (p := ⟨X + 1, 6, none⟩) (fun _ => .inl rfl) _)⟩
  have xT := hW9.out
  clear hW9
  simp only [<- xT]
  have r0 := zAA hR9 (i := 0) rfl
  have r1 := zAA hR9 (i := 1) rfl
  have r2 := zAA hR9 (i := 2) rfl
  have r3 := zAA hR9 (i := 3) rfl
  have r4 := zAA hR9 (i := 4) rfl
  have r5 := zAA hR9 (i := 5) rfl
  have r6 := zAA hR9 (i := 6) rfl
  exact bodyPost_ret (v := .tuple #[.agg #[.int .i64 0, .int .i64 8, .int .i64 0, .int .i64 0, .int .i64 11, .int .i64 Z2, .int .i64 Z3], .bool true]) (by simp [results, Tryz.results164, go_sem, r0, r1, r2, r3, r4, r5, r6]) rfl ⟨rfl, kG.out _ hO9⟩
set_option maxHeartbeats 1000000 in
theorem zRO (h : KAt w c m s) (b : Int) (hi : i < c.ng) (who : Nat) : Calls Tryz.prog 164 #[ptr m.k, .agg #[.int .i64 12, .int .i64 i, .int .i64 b], .int .i64 who] w (KEnd w c m (opF c s ⟨12, i, b⟩ who).1 (.tuple #[.agg #[.int .i64 0, .int .i64 8, .int .i64 0, .int .i64 0, .int .i64 12, .int .i64 (opF c s ⟨12, i, b⟩ who).2.1, .int .i64 (opF c s ⟨12, i, b⟩ who).2.2], .bool true])) := by
 obtain ⟨X, hX⟩ : ∃ X, X = w.heap.size := ⟨_, rfl⟩
 obtain ⟨W, hW⟩ : ∃ W, W = ((w.alloc (.cells #[.int .i64 12, .int .i64 i, .int .i64 b] 94)).alloc (.cells #[.int .i64 0, .int .i64 0, .int .i64 0, .int .i64 0, .int .i64 0, .int .i64 0, .int .i64 0] 60)).alloc (.cells #[.int .i64 0, .int .i64 8, .int .i64 0, .int .i64 0, .int .i64 12, .int .i64 0, .int .i64 0] 60) := ⟨_, rfl⟩
 have hO : Only (fun _ => False) w W := by rw [hW]; exact (((Only.refl _ w).alloc _).alloc _).alloc _
 have hs : W.heap.size = X + 3 := by rw [hW, hX]; simp
 have hx0 : W.heap[X]? = some (.cells [Value.int .i64 12, .int .i64 i, .int .i64 b].toArray 94 (0, 0)) := by rw [hW]; exact zAF (zAF (zAB w _ hX.symm) _) _
 have hx1 : W.heap[X + 1]? = some (.cells [Value.int .i64 0, .int .i64 0, .int .i64 0, .int .i64 0, .int .i64 0, .int .i64 0, .int .i64 0].toArray 60 (0, 0)) := by rw [hW]; exact zAF (zAB _ _ (by rw [hX]; simp)) _
 have hx2 : W.heap[X + 1 + 1]? = some (.cells [Value.int .i64 0, .int .i64 8, .int .i64 0, .int .i64 0, .int .i64 12, .int .i64 0, .int .i64 0].toArray 60 (0, 0)) := by rw [hW]; exact zAB _ _ (by rw [hX]; simp)
 have jG := zh (fun W' (hW' : Only (fun _ => False) W W') => zMM (h.new (hO.trans' hW')) b hi who)
 have jE := zh (fun W' (w1 w2 : World) (hW' : Only (fun _ => False) W W') (hk : KNow W' c m (opF c s ⟨12, i, b⟩ who).1 w1) (ho : Only (fun k => k = X + 1 ∨ k = X + 1 + 1) w1 w2) => KNow.locs h hk (hO.trans' hW') (fun x hx => by have := hW'.size; rcases hx with rfl | rfl <;> omega) ho)
 have jC := zh (fun W' (w1 : World) (hW' : Only (fun _ => False) W W') (hk : KNow W' c m (opF c s ⟨12, i, b⟩ who).1 w1) (hr : ∀ j, w1.cell? ⟨m.k, j, none⟩ = W'.cell? ⟨m.k, j, none⟩) => And.intro (show w1.cell? ⟨m.k, 1, none⟩ = some (.pointer (some ⟨m.b2, 0, none⟩)) /\ w1.cell? ⟨X, 1, none⟩ = some (.int .i64 i) /\ w1.cell? ⟨X, 2, none⟩ = some (.int .i64 b) from ⟨(hr 1).trans ((hO.trans' hW').cell (zAA h.root (i := 1) rfl) id), zAA (hk.keep h (X := X) (hW'.heap hx0 id) (by omega)) (i := 1) rfl, zAA (hk.keep h (X := X) (hW'.heap hx0 id) (by omega)) (i := 2) rfl⟩) (And.intro (hk.keep h (X := X + 1) (hW'.heap hx1 id) (by omega)) (hk.keep h (X := X + 1 + 1) (hW'.heap hx2 id) (by omega))))
 have hS := zh (fun W' W'' (hP : W'.cell? ⟨m.k, 1, none⟩ = some (.pointer (some ⟨m.b2, 0, none⟩)) /\ W'.cell? ⟨X, 1, none⟩ = some (.int .i64 i) /\ W'.cell? ⟨X, 2, none⟩ = some (.int .i64 b)) (ho : Only (fun k => k = X + 1 ∨ k = X + 1 + 1) W' W'') => show W''.cell? ⟨m.k, 1, none⟩ = some (.pointer (some ⟨m.b2, 0, none⟩)) /\ W''.cell? ⟨X, 1, none⟩ = some (.int .i64 i) /\ W''.cell? ⟨X, 2, none⟩ = some (.int .i64 b) from ⟨ho.cell hP.1 (fun e => by have := (h.lt 0 m.k rfl).1; rcases e with e | e <;> have e' := e <;> simp only at e' <;> omega), ho.cell hP.2.1 (fun e => by rcases e with e | e <;> have e' := e <;> simp only at e' <;> omega), ho.cell hP.2.2 (fun e => by rcases e with e | e <;> have e' := e <;> simp only at e' <;> omega)⟩)
 have hP0 : W.cell? ⟨m.k, 1, none⟩ = some (.pointer (some ⟨m.b2, 0, none⟩)) /\ W.cell? ⟨X, 1, none⟩ = some (.int .i64 i) /\ W.cell? ⟨X, 2, none⟩ = some (.int .i64 b) := ⟨hO.cell (zAA h.root (i := 1) rfl) id, zAA hx0 (i := 1) rfl, zAA hx0 (i := 2) rfl⟩
 have cR := hO.cell (zAA h.root (i := 1) rfl) id
 have hlt := Nat.lt_of_lt_of_le (h.lt 0 m.k rfl).1 hO.size
 have x0 := zAA hx0 (i := 0) rfl
 have x1 := zAA hx0 (i := 1) rfl
 have x2 := zAA hx0 (i := 2) rfl
 have xl := zAG hx0
 obtain ⟨Z, hZ⟩ : ∃ Z, Z = (opF c s ⟨12, i, b⟩ who) := ⟨_, rfl⟩
 rw [<- hZ] at jG jE jC ⊢
 obtain ⟨Z1, Z2, Z3⟩ := Z
 dsimp only at jG jE jC ⊢
 unfold ptr KEnd KEndR at *
 have hX' := zh hX
 have hW' := zh hW
 clear h hO hs hx0 hx1 hx2 hX hW hZ hi
 go_enter Tryz.func164, Tryz.ntmps164
 go_upto_region 15 with fail
 rw [<- hX'.out]
 rw [<- hW'.out]
 go_region_held3 (fun W' => W'.cell? ⟨m.k, 1, none⟩ = some (.pointer (some ⟨m.b2, 0, none⟩)) /\ W'.cell? ⟨X, 1, none⟩ = some (.int .i64 i) /\ W'.cell? ⟨X, 2, none⟩ = some (.int .i64 b))
  (first
   | exact hS.out _ _ hP1 (by repeat (first | with_reducible exact Only.refl _ _ | with_reducible refine Only.setCell ?_ (p := ⟨X + 1 + 1, _, none⟩) (fun _ => .inr rfl) _ | with_reducible refine Only.setCell ?_ (p := ⟨X + 1, _, none⟩) (fun _ => .inl rfl) _ | with_reducible apply Only.drew))
   | exact hS.out _ _ hP0 (by repeat (first | with_reducible exact Only.refl _ _ | with_reducible refine Only.setCell ?_ (p := ⟨X + 1 + 1, _, none⟩) (fun _ => .inr rfl) _ | with_reducible refine Only.setCell ?_ (p := ⟨X + 1, _, none⟩) (fun _ => .inl rfl) _ | with_reducible apply Only.drew)))
  (first | (go_at_call 227; (with_reducible refine (jG.out _ (by repeat (first | exact Only.refl _ _ | apply Only.drew))).mono ?_); rintro _ w1 ⟨rfl, hk, hr⟩; obtain ⟨hP1, g1, g2⟩ := jC.out _ w1 (by repeat (first | exact Only.refl _ _ | apply Only.drew)) hk hr; have kG := zh (fun w2 ho => jE.out _ w1 w2 (by repeat (first | exact Only.refl _ _ | apply Only.drew)) hk ho); have y0 := zAA g1 (i := 0) rfl; have y1 := zAA g1 (i := 1) rfl; have y2 := zAA g1 (i := 2) rfl; have y3 := zAA g1 (i := 3) rfl; have y4 := zAA g1 (i := 4) rfl; have y5 := zAA g1 (i := 5) rfl; have y6 := zAA g1 (i := 6) rfl; have yf0 := zAC g1 0; have yf1 := zAC g1 1; have yf2 := zAC g1 2; have yf3 := zAC g1 3; have yf4 := zAC g1 4; have yf5 := zAC g1 5; have yf6 := zAC g1 6; have z0 := zAA g2 (i := 0) rfl; have z1 := zAA g2 (i := 1) rfl; have z2 := zAA g2 (i := 2) rfl; have z3 := zAA g2 (i := 3) rfl; have z4 := zAA g2 (i := 4) rfl; have z5 := zAA g2 (i := 5) rfl; have z6 := zAA g2 (i := 6) rfl; have zf5 := zAC g2 5; have zf6 := zAC g2 6; have yl := zAG g1; have zl := zAG g2; have hg1 := zh g1; clear g1 g2 hk hr))
 all_goals
  go_wp2
  obtain ⟨W9, hW9, hR9, hO9⟩ : ∃ W9, Hid (W9 = _) /\ W9.heap[X + 1]? = some (.cells [Value.int .i64 0, .int .i64 8, .int .i64 0, .int .i64 0, .int .i64 12, .int .i64 Z2, .int .i64 Z3].toArray 60 (0, 0)) /\ Only (fun k => k = X + 1 ∨ k = X + 1 + 1) w1 W9 := by
   first
    | exact ⟨(((((((((w1.setCell ⟨X + 1 + 1, 6, none⟩ (.int .i64 Z3)).setCell ⟨X + 1 + 1, 5, none⟩ (.int .i64 Z2)).setCell ⟨X + 1, 0, none⟩ (.int .i64 0)).setCell ⟨X + 1, 1, none⟩ (.int .i64 8)).setCell ⟨X + 1, 2, none⟩ (.int .i64 0)).setCell ⟨X + 1, 3, none⟩ (.int .i64 0)).setCell ⟨X + 1, 4, none⟩ (.int .i64 12)).setCell ⟨X + 1, 5, none⟩ (.int .i64 Z2)).setCell ⟨X + 1, 6, none⟩ (.int .i64 Z3)), rfl, zAE (zAE (zAE (zAE (zAE (zAE (zAE (zAH (zAH hg1.out (by simp) _) (by simp) _) 0 _) 1 _) 2 _) 3 _) 4 _) 5 _) 6 _, ((((((((((Only.refl (fun k => k = X + 1 ∨ k = X + 1 + 1) w1).setCell (p := ⟨X + 1 + 1, 6, none⟩) (fun _ => .inr rfl) _).setCell (p := ⟨X + 1 + 1, 5, none⟩) (fun _ => .inr rfl) _).setCell (p := ⟨X + 1, 0, none⟩) (fun _ => .inl rfl) _).setCell (p := ⟨X + 1, 1, none⟩) (fun _ => .inl rfl) _).setCell (p := ⟨X + 1, 2, none⟩) (fun _ => .inl rfl) _).setCell (p := ⟨X + 1, 3, none⟩) (fun _ => .inl rfl) _).setCell (p := ⟨X + 1, 4, none⟩) (fun _ => .inl rfl) _).setCell (p := ⟨X + 1, 5, none⟩) (fun _ => .inl rfl) _).setCell (p := ⟨X + 1, 6, none⟩) (fun _ => .inl rfl) _)⟩
    | exact ⟨(((((((((w1.setCell ⟨X + 1 + 1, 5, none⟩ (.int .i64 Z2)).setCell ⟨X + 1 + 1, 6, none⟩ (.int .i64 Z3)).setCell ⟨X + 1, 0, none⟩ (.int .i64 0)).setCell ⟨X + 1, 1, none⟩ (.int .i64 8)).setCell ⟨X + 1, 2, none⟩ (.int .i64 0)).setCell ⟨X + 1, 3, none⟩ (.int .i64 0)).setCell ⟨X + 1, 4, none⟩ (.int .i64 12)).setCell ⟨X + 1, 5, none⟩ (.int .i64 Z2)).setCell ⟨X + 1, 6, none⟩ (.int .i64 Z3)), rfl, zAE (zAE (zAE (zAE (zAE (zAE (zAE (zAH (zAH hg1.out (by simp) _) (by simp) _) 0 _) 1 _) 2 _) 3 _) 4 _) 5 _) 6 _, ((((((((((Only.refl (fun k => k = X + 1 ∨ k = X + 1 + 1) w1).setCell (p := ⟨X + 1 + 1, 5, none⟩) (fun _ => .inr rfl) _).setCell (p := ⟨X + 1 + 1, 6, none⟩) (fun _ => .inr rfl) _).setCell (p := ⟨X + 1, 0, none⟩) (fun _ => .inl rfl) _).setCell (p := ⟨X + 1, 1, none⟩) (fun _ => .inl rfl) _).setCell (p := ⟨X + 1, 2, none⟩) (fun _ => .inl rfl) _).setCell (p := ⟨X + 1, 3, none⟩) (fun _ => .inl rfl) _).setCell (p := ⟨X + 1, 4, none⟩) (fun _ => .inl rfl) _).setCell (p := ⟨X + 1, 5, none⟩) (fun _ => .inl rfl) _).setCell (p := ⟨X + 1, 6, none⟩) (fun _ => .inl rfl) _)⟩
  have xT := hW9.out
  clear hW9
  simp only [<- xT]
  have r0 := zAA hR9 (i := 0) rfl
  have r1 := zAA hR9 (i := 1) rfl
  have r2 := zAA hR9 (i := 2) rfl
  have r3 := zAA hR9 (i := 3) rfl
  have r4 := zAA hR9 (i := 4) rfl
  have r5 := zAA hR9 (i := 5) rfl
  have r6 := zAA hR9 (i := 6) rfl
  exact bodyPost_ret (v := .tuple #[.agg #[.int .i64 0, .int .i64 8, .int .i64 0, .int .i64 0, .int .i64 12, .int .i64 Z2, .int .i64 Z3], .bool true]) (by simp [results, Tryz.results164, go_sem, r0, r1, r2, r3, r4, r5, r6]) rfl ⟨rfl, kG.out _ hO9⟩
set_option maxHeartbeats 1000000 in
theorem zRP (h : KAt w c m s) (b : Int) (hi : i < c.ng) (who : Nat) : Calls Tryz.prog 164 #[ptr m.k, .agg #[.int .i64 13, .int .i64 i, .int .i64 b], .int .i64 who] w (KEnd w c m (opF c s ⟨13, i, b⟩ who).1 (.tuple #[.agg #[.int .i64 0, .int .i64 8, .int .i64 0, .int .i64 0, .int .i64 13, .int .i64 (opF c s ⟨13, i, b⟩ who).2.1, .int .i64 (opF c s ⟨13, i, b⟩ who).2.2], .bool true])) := by
 obtain ⟨X, hX⟩ : ∃ X, X = w.heap.size := ⟨_, rfl⟩
 obtain ⟨W, hW⟩ : ∃ W, W = ((w.alloc (.cells #[.int .i64 13, .int .i64 i, .int .i64 b] 94)).alloc (.cells #[.int .i64 0, .int .i64 0, .int .i64 0, .int .i64 0, .int .i64 0, .int .i64 0, .int .i64 0] 60)).alloc (.cells #[.int .i64 0, .int .i64 8, .int .i64 0, .int .i64 0, .int .i64 13, .int .i64 0, .int .i64 0] 60) := ⟨_, rfl⟩
 have hO : Only (fun _ => False) w W := by rw [hW]; exact (((Only.refl _ w).alloc _).alloc _).alloc _
 have hs : W.heap.size = X + 3 := by rw [hW, hX]; simp
 have hx0 : W.heap[X]? = some (.cells [Value.int .i64 13, .int .i64 i, .int .i64 b].toArray 94 (0, 0)) := by rw [hW]; exact zAF (zAF (zAB w _ hX.symm) _) _
 have hx1 : W.heap[X + 1]? = some (.cells [Value.int .i64 0, .int .i64 0, .int .i64 0, .int .i64 0, .int .i64 0, .int .i64 0, .int .i64 0].toArray 60 (0, 0)) := by rw [hW]; exact zAF (zAB _ _ (by rw [hX]; simp)) _
 have hx2 : W.heap[X + 1 + 1]? = some (.cells [Value.int .i64 0, .int .i64 8, .int .i64 0, .int .i64 0, .int .i64 13, .int .i64 0, .int .i64 0].toArray 60 (0, 0)) := by rw [hW]; exact zAB _ _ (by rw [hX]; simp)
 have jG := zh (fun nq => zO4 (h.new (hO.drewN nq)) b hi who)
 have jE := zh (fun nq (w1 w2 : World) (hk : KNow (W.drewN nq) c m (opF c s ⟨13, i, b⟩ who).1 w1) (ho : Only (fun k => k = X + 1 ∨ k = X + 1 + 1) w1 w2) => KNow.locs h hk (hO.drewN nq) (fun x hx => by show _ /\ x < W.heap.size; rcases hx with rfl | rfl <;> omega) ho)
 have jC := zh (fun nq (w1 : World) (hk : KNow (W.drewN nq) c m (opF c s ⟨13, i, b⟩ who).1 w1) => And.intro (hk.keep h (X := X + 1) hx1 (by omega)) (hk.keep h (X := X + 1 + 1) hx2 (by omega)))
 have hlt := Nat.lt_of_lt_of_le (h.lt 0 m.k rfl).1 hO.size
 have x0 := zAA hx0 (i := 0) rfl
 have x1 := zAA hx0 (i := 1) rfl
 have x2 := zAA hx0 (i := 2) rfl
 have xl := zAG hx0
 obtain ⟨Z, hZ⟩ : ∃ Z, Z = (opF c s ⟨13, i, b⟩ who) := ⟨_, rfl⟩
 rw [<- hZ] at jG jE jC ⊢
 obtain ⟨Z1, Z2, Z3⟩ := Z
 dsimp only at jG jE jC ⊢
 unfold ptr KEnd KEndR at *
 have hX' := zh hX
 have hW' := zh hW
 clear h hO hs hx0 hx1 hx2 hX hW hZ hi
 go_enter Tryz.func164, Tryz.ntmps164
 go_upto_region 17 with fail
 rw [<- hX'.out]
 rw [<- hW'.out]
 go_wp2_with fail
 refine (jG.out 0).mono ?_
 rintro e1 w1 ⟨rfl, hk, -⟩
 obtain ⟨g1, g2⟩ := jC.out 0 w1 hk
 have y0 := zAA g1 (i := 0) rfl
 have y1 := zAA g1 (i := 1) rfl
 have y2 := zAA g1 (i := 2) rfl
 have y3 := zAA g1 (i := 3) rfl
 have y4 := zAA g1 (i := 4) rfl
 have y5 := zAA g1 (i := 5) rfl
 have y6 := zAA g1 (i := 6) rfl
 have yl := zAG g1
 have yf0 := zAC g1 0
 have yf1 := zAC g1 1
 have yf2 := zAC g1 2
 have yf3 := zAC g1 3
 have yf4 := zAC g1 4
 have yf5 := zAC g1 5
 have yf6 := zAC g1 6
 have z0 := zAA g2 (i := 0) rfl
 have z1 := zAA g2 (i := 1) rfl
 have z2 := zAA g2 (i := 2) rfl
 have z3 := zAA g2 (i := 3) rfl
 have z4 := zAA g2 (i := 4) rfl
 have z5 := zAA g2 (i := 5) rfl
 have z6 := zAA g2 (i := 6) rfl
 have zf5 := zAC g2 5
 have zf6 := zAC g2 6
 have zl := zAG g2
 have kG := zh (fun w2 ho => jE.out 0 w1 w2 hk ho)
 have hg1 := zh g1
 clear g1 g2 hk
 go_wp2
 obtain ⟨W9, hW9⟩ : ∃ W9, W9 = ((((((((w1.setCell ⟨X + 1 + 1, 6, none⟩ (.int .i64 Z3)).setCell ⟨X + 1 + 1, 5, none⟩ (.int .i64 Z2)).setCell ⟨X + 1, 0, none⟩ (.int .i64 0)).setCell ⟨X + 1, 1, none⟩ (.int .i64 8)).setCell ⟨X + 1, 2, none⟩ (.int .i64 0)).setCell ⟨X + 1, 3, none⟩ (.int .i64 0)).setCell ⟨X + 1, 4, none⟩ (.int .i64 13)).setCell ⟨X + 1, 5, none⟩ (.int .i64 Z2)).setCell ⟨X + 1, 6, none⟩ (.int .i64 Z3) := ⟨_, rfl⟩
 have hR9 : W9.heap[X + 1]? = some (.cells [Value.int .i64 0, .int .i64 8, .int .i64 0, .int .i64 0, .int .i64 13, .int .i64 Z2, .int .i64 Z3].toArray 60 (0, 0)) := by
  rw [hW9]
  exact zAE (zAE (zAE (zAE (zAE (zAE (zAE (zAH (zAH hg1.out (by simp) _) (by simp) _) 0 _) 1 _) 2 _) 3 _) 4 _) 5 _) 6 _
 have hO9 : Only (fun k => k = X + 1 ∨ k = X + 1 + 1) w1 W9 := by
  rw [hW9]
  exact ((((((((((Only.refl (fun k => k = X + 1 ∨ k = X + 1 + 1) w1).setCell (p := ⟨X + 1 + 1, 6, none⟩) (fun _ => .inr rfl) _).setCell (p := ⟨X + 1 + 1, 5, none⟩) (fun _ => .inr rfl) _).setCell (p := ⟨X + 1, 0, none⟩) (fun _ => .inl rfl) _).setCell (p := ⟨X + 1, 1, none⟩) (fun _ => .inl rfl) _).setCell (p := ⟨X + 1, 2, none⟩) (fun _ => .inl rfl) _).setCell (p := ⟨X + 1, 3, none⟩) (fun _ => .inl rfl) _).setCell (p := ⟨X + 1, 4, none⟩) (fun _ => .inl rfl) _).setCell (p := ⟨X + 1, 5, none⟩) (fun _ => .inl rfl) _).setCell (p := ⟨X + 1, 6, none⟩) (fun _ => .inl rfl) _)
 simp only [<- hW9]
 have r0 := zAA hR9 (i := 0) rfl
 have r1 := zAA hR9 (i := 1) rfl
 have r2 := zAA hR9 (i := 2) rfl
 have r3 := zAA hR9 (i := 3) rfl
 have r4 := zAA hR9 (i := 4) rfl
 have r5 := zAA hR9 (i := 5) rfl
 have r6 := zAA hR9 (i := 6) rfl
 exact bodyPost_ret (v := .tuple #[.agg #[.int .i64 0, .int .i64 8, .int .i64 0, .int .i64 0, .int .i64 13, .int .i64 Z2, .int .i64 Z3], .bool true]) (by simp [results, Tryz.results164, go_sem, r0, r1, r2, r3, r4, r5, r6]) rfl ⟨rfl, kG.out _ hO9⟩
set_option maxHeartbeats 1000000 in
theorem zRQ (h : KAt w c m s) (b : Int) (hi : i < c.nc) (who : Nat) : Calls Tryz.prog 164 #[ptr m.k, .agg #[.int .i64 14, .int .i64 i, .int .i64 b], .int .i64 who] w (KEnd w c m (opF c s ⟨14, i, b⟩ who).1 (.tuple #[.agg #[.int .i64 0, .int .i64 8, .int .i64 0, .int .i64 0, .int .i64 14, .int .i64 (opF c s ⟨14, i, b⟩ who).2.1, .int .i64 (opF c s ⟨14, i, b⟩ who).2.2], .bool true])) := by
 obtain ⟨X, hX⟩ : ∃ X, X = w.heap.size := ⟨_, rfl⟩
 obtain ⟨W, hW⟩ : ∃ W, W = ((w.alloc (.cells #[.int .i64 14, .int .i64 i, .int .i64 b] 94)).alloc (.cells #[.int .i64 0, .int .i64 0, .int .i64 0, .int .i64 0, .int .i64 0, .int .i64 0, .int .i64 0] 60)).alloc (.cells #[.int .i64 0, .int .i64 8, .int .i64 0, .int .i64 0, .int .i64 14, .int .i64 0, .int .i64 0] 60) := ⟨_, rfl⟩
 have hO : Only (fun _ => False) w W := by rw [hW]; exact (((Only.refl _ w).alloc _).alloc _).alloc _
 have hs : W.heap.size = X + 3 := by rw [hW, hX]; simp
 have hx0 : W.heap[X]? = some (.cells [Value.int .i64 14, .int .i64 i, .int .i64 b].toArray 94 (0, 0)) := by rw [hW]; exact zAF (zAF (zAB w _ hX.symm) _) _
 have hx1 : W.heap[X + 1]? = some (.cells [Value.int .i64 0, .int .i64 0, .int .i64 0, .int .i64 0, .int .i64 0, .int .i64 0, .int .i64 0].toArray 60 (0, 0)) := by rw [hW]; exact zAF (zAB _ _ (by rw [hX]; simp)) _
 have hx2 : W.heap[X + 1 + 1]? = some (.cells [Value.int .i64 0, .int .i64 8, .int .i64 0, .int .i64 0, .int .i64 14, .int .i64 0, .int .i64 0].toArray 60 (0, 0)) := by rw [hW]; exact zAB _ _ (by rw [hX]; simp)
 have jG := zh (fun W' (hW' : Only (fun _ => False) W W') => zO5 (h.new (hO.trans' hW')) b hi who)
 have jE := zh (fun W' (w1 w2 : World) (hW' : Only (fun _ => False) W W') (hk : KNow W' c m (opF c s ⟨14, i, b⟩ who).1 w1) (ho : Only (fun k => k = X + 1 ∨ k = X + 1 + 1) w1 w2) => KNow.locs h hk (hO.trans' hW') (fun x hx => by have := hW'.size; rcases hx with rfl | rfl <;> omega) ho)
 have jC := zh (fun W' (w1 : World) (hW' : Only (fun _ => False) W W') (hk : KNow W' c m (opF c s ⟨14, i, b⟩ who).1 w1) (hr : ∀ j, w1.cell? ⟨m.k, j, none⟩ = W'.cell? ⟨m.k, j, none⟩) => And.intro (show w1.cell? ⟨m.k, 2, none⟩ = some (.pointer (some ⟨m.b3, 0, none⟩)) /\ w1.cell? ⟨X, 1, none⟩ = some (.int .i64 i) /\ w1.cell? ⟨X, 2, none⟩ = some (.int .i64 b) from ⟨(hr 2).trans ((hO.trans' hW').cell (zAA h.root (i := 2) rfl) id), zAA (hk.keep h (X := X) (hW'.heap hx0 id) (by omega)) (i := 1) rfl, zAA (hk.keep h (X := X) (hW'.heap hx0 id) (by omega)) (i := 2) rfl⟩) (And.intro (hk.keep h (X := X + 1) (hW'.heap hx1 id) (by omega)) (hk.keep h (X := X + 1 + 1) (hW'.heap hx2 id) (by omega))))
 have hS := zh (fun W' W'' (hP : W'.cell? ⟨m.k, 2, none⟩ = some (.pointer (some ⟨m.b3, 0, none⟩)) /\ W'.cell? ⟨X, 1, none⟩ = some (.int .i64 i) /\ W'.cell? ⟨X, 2, none⟩ = some (.int .i64 b)) (ho : Only (fun k => k = X + 1 ∨ k = X + 1 + 1) W' W'') => show W''.cell? ⟨m.k, 2, none⟩ = some (.pointer (some ⟨m.b3, 0, none⟩)) /\ W''.cell? ⟨X, 1, none⟩ = some (.int .i64 i) /\ W''.cell? ⟨X, 2, none⟩ = some (.int .i64 b) from ⟨ho.cell hP.1 (fun e => by have := (h.lt 0 m.k rfl).1; rcases e with e | e <;> have e' := e <;> simp only at e' <;> omega), ho.cell hP.2.1 (fun e => by rcases e with e | e <;> have e' := e <;> simp only at e' <;> omega), ho.cell hP.2.2 (fun e => by rcases e with e | e <;> have e' := e <;> simp only at e' <;> omega)⟩)
 have hP0 : W.cell? ⟨m.k, 2, none⟩ = some (.pointer (some ⟨m.b3, 0, none⟩)) /\ W.cell? ⟨X, 1, none⟩ = some (.int .i64 i) /\ W.cell? ⟨X, 2, none⟩ = some (.int .i64 b) := ⟨hO.cell (zAA h.root (i := 2) rfl) id, zAA hx0 (i := 1) rfl, zAA hx0 (i := 2) rfl⟩
 have cR := hO.cell (zAA h.root (i := 2) rfl) id
 have hlt := Nat.lt_of_lt_of_le (h.lt 0 m.k rfl).1 hO.size
 have x0 := zAA hx0 (i := 0) rfl
 have x1 := zAA hx0 (i := 1) rfl
 have x2 := zAA hx0 (i := 2) rfl
 have xl := zAG hx0
 obtain ⟨Z, hZ⟩ : ∃ Z, Z = (opF c s ⟨14, i, b⟩ who) := ⟨_, rfl⟩
 rw [<- hZ] at jG jE jC ⊢
 obtain ⟨Z1, Z2, Z3⟩ := Z
 dsimp only at jG jE jC ⊢
 unfold ptr KEnd KEndR at *
 have hX' := zh hX
 have hW' := zh hW
 clear h hO hs hx0 hx1 hx2 hX hW hZ hi
 go_enter Tryz.func164, Tryz.ntmps164
 go_upto_region 19 with fail
 rw [<- hX'.out]
 rw [<- hW'.out]
 go_region_held3 (fun W' => W'.cell? ⟨m.k, 2, none⟩ = some (.pointer (some ⟨m.b3, 0, none⟩)) /\ W'.cell? ⟨X, 1, none⟩ = some (.int .i64 i) /\ W'.cell? ⟨X, 2, none⟩ = some (.int .i64 b))
  (first
   | exact hS.out _ _ hP1 (by repeat (first | with_reducible exact Only.refl _ _ | with_reducible refine Only.setCell ?_ (p := ⟨X + 1 + 1, _, none⟩) (fun _ => .inr rfl) _ | with_reducible refine Only.setCell ?_ (p := ⟨X + 1, _, none⟩) (fun _ => .inl rfl) _ | with_reducible apply Only.drew))
   | exact hS.out _ _ hP0 (by repeat (first | with_reducible exact Only.refl _ _ | with_reducible refine Only.setCell ?_ (p := ⟨X + 1 + 1, _, none⟩) (fun _ => .inr rfl) _ | with_reducible refine Only.setCell ?_ (p := ⟨X + 1, _, none⟩) (fun _ => .inl rfl) _ | with_reducible apply Only.drew)))
  (first | (go_at_call 229; (with_reducible refine (jG.out _ (by repeat (first | exact Only.refl _ _ | apply Only.drew))).mono ?_); rintro _ w1 ⟨rfl, hk, hr⟩; obtain ⟨hP1, g1, g2⟩ := jC.out _ w1 (by repeat (first | exact Only.refl _ _ | apply Only.drew)) hk hr; have kG := zh (fun w2 ho => jE.out _ w1 w2 (by repeat (first | exact Only.refl _ _ | apply Only.drew)) hk ho); have y0 := zAA g1 (i := 0) rfl; have y1 := zAA g1 (i := 1) rfl; have y2 := zAA g1 (i := 2) rfl; have y3 := zAA g1 (i := 3) rfl; have y4 := zAA g1 (i := 4) rfl; have y5 := zAA g1 (i := 5) rfl; have y6 := zAA g1 (i := 6) rfl; have yf0 := zAC g1 0; have yf1 := zAC g1 1; have yf2 := zAC g1 2; have yf3 := zAC g1 3; have yf4 := zAC g1 4; have yf5 := zAC g1 5; have yf6 := zAC g1 6; have z0 := zAA g2 (i := 0) rfl; have z1 := zAA g2 (i := 1) rfl; have z2 := zAA g2 (i := 2) rfl; have z3 := zAA g2 (i := 3) rfl; have z4 := zAA g2 (i := 4) rfl; have z5 := zAA g2 (i := 5) rfl; have z6 := zAA g2 (i := 6) rfl; have zf5 := zAC g2 5; have zf6 := zAC g2 6; have yl := zAG g1; have zl := zAG g2; have hg1 := zh g1; clear g1 g2 hk hr))
 all_goals
  go_wp2
  obtain ⟨W9, hW9, hR9, hO9⟩ : ∃ W9, Hid (W9 = _) /\ W9.heap[X + 1]? = some (.cells [Value.int .i64 0, .int .i64 8, .int .i64 0, .int .i64 0, .int .i64 14, .int .i64 Z2, .int .i64 Z3].toArray 60 (0, 0)) /\ Only (fun k => k = X + 1 ∨ k = X + 1 + 1) w1 W9 := by
   first
    | exact ⟨(((((((((w1.setCell ⟨X + 1 + 1, 6, none⟩ (.int .i64 Z3)).setCell ⟨X + 1 + 1, 5, none⟩ (.int .i64 Z2)).setCell ⟨X + 1, 0, none⟩ (.int .i64 0)).setCell ⟨X + 1, 1, none⟩ (.int .i64 8)).setCell ⟨X + 1, 2, none⟩ (.int .i64 0)).setCell ⟨X + 1, 3, none⟩ (.int .i64 0)).setCell ⟨X + 1, 4, none⟩ (.int .i64 14)).setCell ⟨X + 1, 5, none⟩ (.int .i64 Z2)).setCell ⟨X + 1, 6, none⟩ (.int .i64 Z3)), rfl, zAE (zAE (zAE (zAE (zAE (zAE (zAE (zAH (zAH hg1.out (by simp) _) (by simp) _) 0 _) 1 _) 2 _) 3 _) 4 _) 5 _) 6 _, ((((((((((Only.refl (fun k => k = X + 1 ∨ k = X + 1 + 1) w1).setCell (p := ⟨X + 1 + 1, 6, none⟩) (fun _ => .inr rfl) _).setCell (p := ⟨X + 1 + 1, 5, none⟩) (fun _ => .inr rfl) _).setCell (p := ⟨X + 1, 0, none⟩) (fun _ => .inl rfl) _).setCell (p := ⟨X + 1, 1, none⟩) (fun _ => .inl rfl) _).setCell (p := ⟨X + 1, 2, none⟩) (fun _ => .inl rfl) _).setCell (p := ⟨X + 1, 3, none⟩) (fun _ => .inl rfl) _).setCell (p := ⟨X + 1, 4, none⟩) (fun _ => .inl rfl) _).setCell (p := ⟨X + 1, 5, none⟩) (fun _ => .inl rfl) _).setCell (p := ⟨X + 1, 6, none⟩) (fun _ => .inl rfl) _)⟩
    | exact ⟨(((((((((w1.setCell ⟨X + 1 + 1, 5, none⟩ (.int .i64 Z2)).setCell ⟨X + 1 + 1, 6, none⟩ (.int .i64 Z3)).setCell ⟨X + 1, 0, none⟩ (.int .i64 0)).setCell ⟨X + 1, 1, none⟩ (.int .i64 8)).setCell ⟨X + 1, 2, none⟩ (.int .i64 0)).setCell ⟨X + 1, 3, none⟩ (.int .i64 0)).setCell ⟨X + 1, 4, none⟩ (.int .i64 14)).setCell ⟨X + 1, 5, none⟩ (.int .i64 Z2)).setCell ⟨X + 1, 6, none⟩ (.int .i64 Z3)), rfl, zAE (zAE (zAE (zAE (zAE (zAE (zAE (zAH (zAH hg1.out (by simp) _) (by simp) _) 0 _) 1 _) 2 _) 3 _) 4 _) 5 _) 6 _, ((((((((((Only.refl (fun k => k = X + 1 ∨ k = X + 1 + 1) w1).setCell (p := ⟨X + 1 + 1, 5, none⟩) (fun _ => .inr rfl) _).setCell (p := ⟨X + 1 + 1, 6, none⟩) (fun _ => .inr rfl) _).setCell (p := ⟨X + 1, 0, none⟩) (fun _ => .inl rfl) _).setCell (p := ⟨X + 1, 1, none⟩) (fun _ => .inl rfl) _).setCell (p := ⟨X + 1, 2, none⟩) (fun _ => .inl rfl) _).setCell (p := ⟨X + 1, 3, none⟩) (fun _ => .inl rfl) _).setCell (p := ⟨X + 1, 4, none⟩) (fun _ => .inl rfl) _).setCell (p := ⟨X + 1, 5, none⟩) (fun _ => .inl rfl) _).setCell (p := ⟨X + 1, 6, none⟩) (fun _ => .inl rfl) _)⟩
  have xT := hW9.out
  clear hW9
  simp only [<- xT]
  have r0 := zAA hR9 (i := 0) rfl
  have r1 := zAA hR9 (i := 1) rfl
  have r2 := zAA hR9 (i := 2) rfl
  have r3 := zAA hR9 (i := 3) rfl
  have r4 := zAA hR9 (i := 4) rfl
  have r5 := zAA hR9 (i := 5) rfl
  have r6 := zAA hR9 (i := 6) rfl
  exact bodyPost_ret (v := .tuple #[.agg #[.int .i64 0, .int .i64 8, .int .i64 0, .int .i64 0, .int .i64 14, .int .i64 Z2, .int .i64 Z3], .bool true]) (by simp [results, Tryz.results164, go_sem, r0, r1, r2, r3, r4, r5, r6]) rfl ⟨rfl, kG.out _ hO9⟩
set_option maxHeartbeats 1000000 in
theorem zRR (h : KAt w c m s) (b : Int) (hi : i < c.nc) (who : Nat) : Calls Tryz.prog 164 #[ptr m.k, .agg #[.int .i64 15, .int .i64 i, .int .i64 b], .int .i64 who] w (KEnd w c m (opF c s ⟨15, i, b⟩ who).1 (.tuple #[.agg #[.int .i64 0, .int .i64 8, .int .i64 0, .int .i64 0, .int .i64 15, .int .i64 (opF c s ⟨15, i, b⟩ who).2.1, .int .i64 (opF c s ⟨15, i, b⟩ who).2.2], .bool true])) := by
 obtain ⟨X, hX⟩ : ∃ X, X = w.heap.size := ⟨_, rfl⟩
 obtain ⟨W, hW⟩ : ∃ W, W = ((w.alloc (.cells #[.int .i64 15, .int .i64 i, .int .i64 b] 94)).alloc (.cells #[.int .i64 0, .int .i64 0, .int .i64 0, .int .i64 0, .int .i64 0, .int .i64 0, .int .i64 0] 60)).alloc (.cells #[.int .i64 0, .int .i64 8, .int .i64 0, .int .i64 0, .int .i64 15, .int .i64 0, .int .i64 0] 60) := ⟨_, rfl⟩
 have hO : Only (fun _ => False) w W := by rw [hW]; exact (((Only.refl _ w).alloc _).alloc _).alloc _
 have hs : W.heap.size = X + 3 := by rw [hW, hX]; simp
 have hx0 : W.heap[X]? = some (.cells [Value.int .i64 15, .int .i64 i, .int .i64 b].toArray 94 (0, 0)) := by rw [hW]; exact zAF (zAF (zAB w _ hX.symm) _) _
 have hx1 : W.heap[X + 1]? = some (.cells [Value.int .i64 0, .int .i64 0, .int .i64 0, .int .i64 0, .int .i64 0, .int .i64 0, .int .i64 0].toArray 60 (0, 0)) := by rw [hW]; exact zAF (zAB _ _ (by rw [hX]; simp)) _
 have hx2 : W.heap[X + 1 + 1]? = some (.cells [Value.int .i64 0, .int .i64 8, .int .i64 0, .int .i64 0, .int .i64 15, .int .i64 0, .int .i64 0].toArray 60 (0, 0)) := by rw [hW]; exact zAB _ _ (by rw [hX]; simp)
 have jG := zh (fun W' (hW' : Only (fun _ => False) W W') => zO6 (h.new (hO.trans' hW')) b hi who)
 have jE := zh (fun W' (w1 w2 : World) (hW' : Only (fun _ => False) W W') (hk : KNow W' c m (opF c s ⟨15, i, b⟩ who).1 w1) (ho : Only (fun k => k = X + 1 ∨ k = X + 1 + 1) w1 w2) => KNow.locs h hk (hO.trans' hW') (fun x hx => by have := hW'.size; rcases hx with rfl | rfl <;> omega) ho)
 have jC := zh (fun W' (w1 : World) (hW' : Only (fun _ => False) W W') (hk : KNow W' c m (opF c s ⟨15, i, b⟩ who).1 w1) (hr : ∀ j, w1.cell? ⟨m.k, j, none⟩ = W'.cell? ⟨m.k, j, none⟩) => And.intro (show w1.cell? ⟨m.k, 2, none⟩ = some (.pointer (some ⟨m.b3, 0, none⟩)) /\ w1.cell? ⟨X, 1, none⟩ = some (.int .i64 i) /\ w1.cell? ⟨X, 2, none⟩ = some (.int .i64 b) from ⟨(hr 2).trans ((hO.trans' hW').cell (zAA h.root (i := 2) rfl) id), zAA (hk.keep h (X := X) (hW'.heap hx0 id) (by omega)) (i := 1) rfl, zAA (hk.keep h (X := X) (hW'.heap hx0 id) (by omega)) (i := 2) rfl⟩) (And.intro (hk.keep h (X := X + 1) (hW'.heap hx1 id) (by omega)) (hk.keep h (X := X + 1 + 1) (hW'.heap hx2 id) (by omega))))
 have hS := zh (fun W' W'' (hP : W'.cell? ⟨m.k, 2, none⟩ = some (.pointer (some ⟨m.b3, 0, none⟩)) /\ W'.cell? ⟨X, 1, none⟩ = some (.int .i64 i) /\ W'.cell? ⟨X, 2, none⟩ = some (.int .i64 b)) (ho : Only (fun k => k = X + 1 ∨ k = X + 1 + 1) W' W'') => show W''.cell? ⟨m.k, 2, none⟩ = some (.pointer (some ⟨m.b3, 0, none⟩)) /\ W''.cell? ⟨X, 1, none⟩ = some (.int .i64 i) /\ W''.cell? ⟨X, 2, none⟩ = some (.int .i64 b) from ⟨ho.cell hP.1 (fun e => by have := (h.lt 0 m.k rfl).1; rcases e with e | e <;> have e' := e <;> simp only at e' <;> omega), ho.cell hP.2.1 (fun e => by rcases e with e | e <;> have e' := e <;> simp only at e' <;> omega), ho.cell hP.2.2 (fun e => by rcases e with e | e <;> have e' := e <;> simp only at e' <;> omega)⟩)
 have hP0 : W.cell? ⟨m.k, 2, none⟩ = some (.pointer (some ⟨m.b3, 0, none⟩)) /\ W.cell? ⟨X, 1, none⟩ = some (.int .i64 i) /\ W.cell? ⟨X, 2, none⟩ = some (.int .i64 b) := ⟨hO.cell (zAA h.root (i := 2) rfl) id, zAA hx0 (i := 1) rfl, zAA hx0 (i := 2) rfl⟩
 have cR := hO.cell (zAA h.root (i := 2) rfl) id
 have hlt := Nat.lt_of_lt_of_le (h.lt 0 m.k rfl).1 hO.size
 have x0 := zAA hx0 (i := 0) rfl
 have x1 := zAA hx0 (i := 1) rfl
 have x2 := zAA hx0 (i := 2) rfl
 have xl := zAG hx0
 obtain ⟨Z, hZ⟩ : ∃ Z, Z = (opF c s ⟨15, i, b⟩ who) := ⟨_, rfl⟩
 rw [<- hZ] at jG jE jC ⊢
 obtain ⟨Z1, Z2, Z3⟩ := Z
 dsimp only at jG jE jC ⊢
 unfold ptr KEnd KEndR at *
 have hX' := zh hX
 have hW' := zh hW
 clear h hO hs hx0 hx1 hx2 hX hW hZ hi
 go_enter Tryz.func164, Tryz.ntmps164
 go_upto_region 21 with fail
 rw [<- hX'.out]
 rw [<- hW'.out]
 go_region_held3 (fun W' => W'.cell? ⟨m.k, 2, none⟩ = some (.pointer (some ⟨m.b3, 0, none⟩)) /\ W'.cell? ⟨X, 1, none⟩ = some (.int .i64 i) /\ W'.cell? ⟨X, 2, none⟩ = some (.int .i64 b))
  (first
   | exact hS.out _ _ hP1 (by repeat (first | with_reducible exact Only.refl _ _ | with_reducible refine Only.setCell ?_ (p := ⟨X + 1 + 1, _, none⟩) (fun _ => .inr rfl) _ | with_reducible refine Only.setCell ?_ (p := ⟨X + 1, _, none⟩) (fun _ => .inl rfl) _ | with_reducible apply Only.drew))
   | exact hS.out _ _ hP0 (by repeat (first | with_reducible exact Only.refl _ _ | with_reducible refine Only.setCell ?_ (p := ⟨X + 1 + 1, _, none⟩) (fun _ => .inr rfl) _ | with_reducible refine Only.setCell ?_ (p := ⟨X + 1, _, none⟩) (fun _ => .inl rfl) _ | with_reducible apply Only.drew)))
  (first | (go_at_call 230; (with_reducible refine (jG.out _ (by repeat (first | exact Only.refl _ _ | apply Only.drew))).mono ?_); rintro _ w1 ⟨rfl, hk, hr⟩; obtain ⟨hP1, g1, g2⟩ := jC.out _ w1 (by repeat (first | exact Only.refl _ _ | apply Only.drew)) hk hr; have kG := zh (fun w2 ho => jE.out _ w1 w2 (by repeat (first | exact Only.refl _ _ | apply Only.drew)) hk ho); have y0 := zAA g1 (i := 0) rfl; have y1 := zAA g1 (i := 1) rfl; have y2 := zAA g1 (i := 2) rfl; have y3 := zAA g1 (i := 3) rfl; have y4 := zAA g1 (i := 4) rfl; have y5 := zAA g1 (i := 5) rfl; have y6 := zAA g1 (i := 6) rfl; have yf0 := zAC g1 0; have yf1 := zAC g1 1; have yf2 := zAC g1 2; have yf3 := zAC g1 3; have yf4 := zAC g1 4; have yf5 := zAC g1 5; have yf6 := zAC g1 6; have z0 := zAA g2 (i := 0) rfl; have z1 := zAA g2 (i := 1) rfl; have z2 := zAA g2 (i := 2) rfl; have z3 := zAA g2 (i := 3) rfl; have z4 := zAA g2 (i := 4) rfl; have z5 := zAA g2 (i := 5) rfl; have z6 := zAA g2 (i := 6) rfl; have zf5 := zAC g2 5; have zf6 := zAC g2 6; have yl := zAG g1; have zl := zAG g2; have hg1 := zh g1; clear g1 g2 hk hr))
 all_goals
  go_wp2
  obtain ⟨W9, hW9, hR9, hO9⟩ : ∃ W9, Hid (W9 = _) /\ W9.heap[X + 1]? = some (.cells [Value.int .i64 0, .int .i64 8, .int .i64 0, .int .i64 0, .int .i64 15, .int .i64 Z2, .int .i64 Z3].toArray 60 (0, 0)) /\ Only (fun k => k = X + 1 ∨ k = X + 1 + 1) w1 W9 := by
   first
    | exact ⟨(((((((((w1.setCell ⟨X + 1 + 1, 6, none⟩ (.int .i64 Z3)).setCell ⟨X + 1 + 1, 5, none⟩ (.int .i64 Z2)).setCell ⟨X + 1, 0, none⟩ (.int .i64 0)).setCell ⟨X + 1, 1, none⟩ (.int .i64 8)).setCell ⟨X + 1, 2, none⟩ (.int .i64 0)).setCell ⟨X + 1, 3, none⟩ (.int .i64 0)).setCell ⟨X + 1, 4, none⟩ (.int .i64 15)).setCell ⟨X + 1, 5, none⟩ (.int .i64 Z2)).setCell ⟨X + 1, 6, none⟩ (.int .i64 Z3)), rfl, zAE (zAE (zAE (zAE (zAE (zAE (zAE (zAH (zAH hg1.out (by simp) _) (by simp) _) 0 _) 1 _) 2 _) 3 _) 4 _) 5 _) 6 _, ((((((((((Only.refl (fun k => k = X + 1 ∨ k = X + 1 + 1) w1).setCell (p := ⟨X + 1 + 1, 6, none⟩) (fun _ => .inr rfl) _).setCell (p := ⟨X + 1 + 1, 5, none⟩) (fun _ => .inr rfl) _).setCell (p := ⟨X + 1, 0, none⟩) (fun _ => .inl rfl) _).setCell (p := ⟨X + 1, 1, none⟩) (fun _ => .inl rfl) _).setCell (p := ⟨X + 1, 2, none⟩) (fun _ => .inl rfl) _).setCell (p := ⟨X + 1, 3, none⟩) (fun _ => .inl rfl) _).setCell (p := ⟨X + 1, 4, none⟩) (fun _ => .inl rfl) _).setCell (p := ⟨X + 1, 5, none⟩) (fun _ => .inl rfl) _).setCell (p := ⟨X + 1, 6, none⟩) (fun _ => .inl rfl) _)⟩
    | exact ⟨(((((((((w1.setCell ⟨X + 1 + 1, 5, none⟩ (.int .i64 Z2)).setCell ⟨X + 1 + 1, 6, none⟩ (.int .i64 Z3)).setCell ⟨X + 1, 0, none⟩ (.int .i64 0)).setCell ⟨X + 1, 1, none⟩ (.int .i64 8)).setCell ⟨X + 1, 2, none⟩ (.int .i64 0)).setCell ⟨X + 1, 3, none⟩ (.int .i64 0)).setCell ⟨X + 1, 4, none⟩ (.int .i64 15)).setCell ⟨X + 1, 5, none⟩ (.int .i64 Z2)).setCell ⟨X + 1, 6, none⟩ (.int .i64 Z3)), rfl, zAE (zAE (zAE (zAE (zAE (zAE (zAE (zAH (zAH hg1.out (by simp) _) (by simp) _) 0 _) 1 _) 2 _) 3 _) 4 _) 5 _) 6 _, ((((((((((Only.refl (fun k => k = X + 1 ∨ k = X + 1 + 1) w1).setCell (p := ⟨X + 1 + 1, 5, none⟩) (fun _ => .inr rfl) _).setCell (p := ⟨X + 1 + 1, 6, none⟩) (fun _ => .inr rfl) _).setCell (p := ⟨X + 1, 0, none⟩) (fun _ => .inl rfl) _).setCell (p := ⟨X + 1, 1, none⟩) (fun _ => .inl rfl) _).setCell (p := ⟨X + 1, 2, none⟩) (fun _ => .inl rfl) _).setCell (p := ⟨X + 1, 3, none⟩) (fun _ => .inl rfl) _).setCell (p := ⟨X + 1, 4, none⟩) (fun _ => .inl rfl) _).setCell (p := ⟨X + 1, 5, none⟩) (fun _ => .inl rfl) _).setCell (p := ⟨X + 1, 6, none⟩) (fun _ => .inl rfl) _)⟩
  have xT := hW9.out
  clear hW9
  simp only [<- xT]
  have r0 := zAA hR9 (i := 0) rfl
  have r1 := zAA hR9 (i := 1) rfl
  have r2 := zAA hR9 (i := 2) rfl
  have r3 := zAA hR9 (i := 3) rfl
  have r4 := zAA hR9 (i := 4) rfl
  have r5 := zAA hR9 (i := 5) rfl
  have r6 := zAA hR9 (i := 6) rfl
  exact bodyPost_ret (v := .tuple #[.agg #[.int .i64 0, .int .i64 8, .int .i64 0, .int .i64 0, .int .i64 15, .int .i64 Z2, .int .i64 Z3], .bool true]) (by simp [results, Tryz.results164, go_sem, r0, r1, r2, r3, r4, r5, r6]) rfl ⟨rfl, kG.out _ hO9⟩
theorem zMN (x : Opn) (hx : callK x.k = false) (k who : Nat) (w : World) : Calls Tryz.prog 164 #[ptr k, x.val, .int .i64 who] w (GrowV (.tuple #[zrc.val, .bool false]) w) := by
 obtain ⟨K, a, b⟩ := x
 have hx' : ¬ (K = 5 ∨ K = 6 ∨ 9 <= K /\ K <= 15) := of_decide_eq_false hx
 have k5 : (K == 5) = false := by simp; omega
 have k6 : (K == 6) = false := by simp; omega
 have k9 : (K == 9) = false := by simp; omega
 have k10 : (K == 10) = false := by simp; omega
 have k11 : (K == 11) = false := by simp; omega
 have k12 : (K == 12) = false := by simp; omega
 have k13 : (K == 13) = false := by simp; omega
 have k14 : (K == 14) = false := by simp; omega
 have k15 : (K == 15) = false := by simp; omega
 unfold Opn.val ptr zrc Rc.val
 dsimp only
 clear hx hx'
 go_enter Tryz.func164, Tryz.ntmps164
 go_wp2
 exact bodyPost_ret (v := .tuple #[.agg #[.int .i64 0, .int .i64 0, .int .i64 0, .int .i64 0, .int .i64 0, .int .i64 0, .int .i64 0], .bool false]) (by simp [results, Tryz.results164, go_sem]) rfl ⟨rfl, (((Only.refl _ w).alloc _).alloc _).alloc _⟩
theorem zO7 (h : KAt w c m s) {x : Opn} (hx : OpIn c x i) (hk : callK x.k = true) (who : Nat) : Calls Tryz.prog 164 #[ptr m.k, x.val, .int .i64 who] w (KEnd w c m (opF c s x who).1 (.tuple #[(⟨0, 8, 0, 0, x.k, (opF c s x who).2.1, (opF c s x who).2.2⟩ : Rc).val, .bool true])) := by
 obtain ⟨K, a, b⟩ := x
 obtain ⟨ha, hl, hb, hg, hn⟩ := hx
 dsimp only at *
 subst ha
 have hk' : K = 5 ∨ K = 6 ∨ 9 <= K /\ K <= 15 := of_decide_eq_true hk
 have hc : K = 5 ∨ K = 6 ∨ K = 9 ∨ K = 10 ∨ K = 11 ∨ K = 12 ∨ K = 13 ∨ K = 14 ∨ K = 15 := by omega
 rcases hc with rfl | rfl | rfl | rfl | rfl | rfl | rfl | rfl | rfl
 ·have e : (opF c s ⟨5, i, b⟩ who).2.2 = 0 := by simp only [opF, if_true]; split <;> rfl
  rw [e]
  exact zTA h b (hl (.inl rfl)) who
 ·have e : (opF c s ⟨6, i, b⟩ who).2.2 = 0 := by simp only [opF, if_true]; rw [if_neg (by decide)]; split <;> rfl
  rw [e]
  exact zTB h b (hl (.inr rfl)) who
 ·have e : (opF c s ⟨9, i, b⟩ who).2.2 = 0 := by simp only [opF, if_true]; rw [if_neg (by decide), if_neg (by decide)]; split <;> rfl
  rw [e]
  exact zTC h b (hb (.inl rfl)) who
 ·exact zRM h b (hb (.inr rfl)) who
 ·exact zRN h b (hg (.inl rfl)) who
 ·exact zRO h b (hg (.inr (.inl rfl))) who
 ·exact zRP h b (hg (.inr (.inr rfl))) who
 ·exact zRQ h b (hn (.inl rfl)) who
 ·exact zRR h b (hn (.inr rfl)) who
end
