import Derived.Test.YtlbdjiiddofkgaaGreatDoorC32
set_option maxRecDepth 100000
namespace Go.Proofs.YtlbdjiiddofkgaaGreatDoor
namespace Krn
open Go Go.RowKit Go.Maps Ring Band
section
variable {w w' : World} {c : KC} {m : KM} {s : KS}
set_option maxHeartbeats 2000000 in
theorem zHO (h : KAt w c m s) {t : Nat} (ht : t < c.ts.length) (hnx : s.nx t <= 1000000) (hpf : ∀ q ∈ s.ps, Jb.fine q.1) (hnew : ∀ q ∈ s.ps, q.1 ≠ relJ s t) (hnow : 0 <= s.now /\ s.now <= 1000000000) (hel : s.ents.length <= 1000000000) (htr : s.tr.length <= 1000000000) (htn : c.ts.length <= 1000) (hroom : (s.q t).length < 4) :
  Calls Tryz.prog 151 #[ptr m.k, .int .i64 t] w (KEnd w c m (vD (relC s t) t (s.nx t) ⟨0, 1, 0, 0, 0, 0, 0⟩) (.tuple #[])) := by
 obtain ⟨hRd, hBt⟩ := h.p 9
 have hq : (fun i => (upd s.q t (s.q t ++ [(relJ s t, s.ents.length)]) i).map Prod.fst) = upd (qj s) t (qj s t ++ [⟨t, s.nx t, s.now⟩]) := by
  rw [zP8, List.map_append, List.map_singleton]
  rfl
 have hA := zh (fun w0 w1 o' m' (h0 : Only (fun _ => False) w w0) (hR : Hid (RdAt w1 m.B m.r7 m.G7 m.s7 m.m7 c.ts.length c.P (upd s.nx t (s.nx t + 1)) m.ring o' (upd (qj s) t (qj s t ++ [⟨t, s.nx t, s.now⟩])) m')) (hb : Hid (Bits c.ts.length c.P (upd (qj s) t (qj s t ++ [⟨t, s.nx t, s.now⟩])) m')) (hO : Hid (Only (rfp m.r7 m.G7 m.s7 m.m7 c.ts.length m.ring m.o7) w0 w1)) (hn : Hid (∀ k, rfp m.r7 m.G7 m.s7 m.m7 c.ts.length m.ring o' k -> rfp m.r7 m.G7 m.s7 m.m7 c.ts.length m.ring m.o7 k ∨ w0.heap.size <= k)) =>
  show Rel0 w c m (relA s t) (relJ s t) w1.heap.size (w1.alloc (.cells #[.int .i64 t, .int .i64 (s.nx t), .int .i64 s.now] 178)) from zP9 (s1 := relA s t) h rfl h0 (by rw [hq]; exact hR.out) (by rw [hq]; exact hb.out) hO.out hn.out (relJ s t))
 have hB := zh (fun w1 o' m' (hR : Hid (RdAt w1 m.B m.r7 m.G7 m.s7 m.m7 c.ts.length c.P (upd s.nx t (s.nx t + 1)) m.ring o' (upd (qj s) t (qj s t ++ [⟨t, s.nx t, s.now⟩])) m')) (hb : Hid (Bits c.ts.length c.P (upd (qj s) t (qj s t ++ [⟨t, s.nx t, s.now⟩])) m')) (hO : Hid (Only (rfp m.r7 m.G7 m.s7 m.m7 c.ts.length m.ring m.o7) ((w.alloc (.cells #[.int .i64 0, .int .i64 0, .int .i64 0] 178)).drew) w1)) (hn : Hid (∀ k, rfp m.r7 m.G7 m.s7 m.m7 c.ts.length m.ring o' k -> rfp m.r7 m.G7 m.s7 m.m7 c.ts.length m.ring m.o7 k ∨ ((w.alloc (.cells #[.int .i64 0, .int .i64 0, .int .i64 0] 178)).drew).heap.size <= k)) =>
  show Rel0 w c m (relA s t) (relJ s t) w.heap.size (((w1.setCell ⟨w.heap.size, 0, none⟩ (.int .i64 t)).setCell ⟨w.heap.size, 1, none⟩ (.int .i64 (s.nx t))).setCell ⟨w.heap.size, 2, none⟩ (.int .i64 s.now)) from zQA (s1 := relA s t) h rfl (by rw [hq]; exact hR.out) (by rw [hq]; exact hb.out) hO.out hn.out (relJ s t))
 have jY := zh (fun W (hO : Only (rfp m.r7 m.G7 m.s7 m.m7 c.ts.length m.ring m.o7) w W) => show W.cell? ⟨m.k, 12, none⟩ = some (.pointer (some ⟨m.r7, 0, none⟩)) /\ W.cell? ⟨m.k, 19, none⟩ = some (.int .i64 s.now) from ⟨hO.cell (zAA h.root (i := 12) rfl) (fun hh => h.ap 9 0 (by decide) _ hh rfl), hO.cell (zAA h.root (i := 19) rfl) (fun hh => h.ap 9 0 (by decide) _ hh rfl)⟩)
 have hY := zh (fun W0 w1 (hO : Only (rfp m.r7 m.G7 m.s7 m.m7 c.ts.length m.ring m.o7) W0 w1) (hn : W0.heap[w.heap.size]? = some (.cells [Value.int .i64 0, .int .i64 0, .int .i64 0].toArray 178 (0, 0))) => show w1.cell? ⟨w.heap.size, 0, none⟩ = some (.int .i64 0) /\ w1.cell? ⟨w.heap.size, 1, none⟩ = some (.int .i64 0) /\ w1.cell? ⟨w.heap.size, 2, none⟩ = some (.int .i64 0) /\ w1.frozen? ⟨w.heap.size, 0, none⟩ = false /\ w1.frozen? ⟨w.heap.size, 1, none⟩ = false /\ w1.frozen? ⟨w.heap.size, 2, none⟩ = false /\ w.heap.size < w1.heap.size from by
  have hb1 := hO.heap hn (fun hk => by have := (hRd.lt _ hk).1; omega)
  exact ⟨zAA hb1 (i := 0) rfl, zAA hb1 (i := 1) rfl, zAA hb1 (i := 2) rfl, zAC hb1 0, zAC hb1 1, zAC hb1 2, zAG hb1⟩)
 have hrl : (qj s t).length < 4 := by unfold qj; rw [List.length_map]; exact hroom
 have hrel := zh (fun W (hW : Only (fun _ => False) w W) => Go.Proofs.YtlbdjiiddofkgaaGreatDoor.release_any (hRd.new hW) hBt ht hnx s.now)
 simp only [if_pos hrl] at hrel
 have c6 := zAA h.root (i := 12) rfl
 have c19 := zAA h.root (i := 19) rfl
 have hlt := (h.lt 0 m.k rfl).1
 have jFw := zh hpf
 have xU := zh hnew
 unfold KEnd
 obtain ⟨Z, hZ⟩ : ∃ Z, Z = KNow w c m (vD (relC s t) t (s.nx t) ⟨0, 1, 0, 0, 0, 0, 0⟩) := ⟨_, rfl⟩
 rw [<- hZ]
 have hZ' := zh hZ
 unfold ptr at *
 clear h hRd hBt hZ hpf hnew hq hrl hroom
 go_enter Tryz.func151, Tryz.ntmps151
 go_upto_region 0 with fail
 go_region_held3 (fun w' => w'.cell? ⟨m.k, 12, none⟩ = some (.pointer (some ⟨m.r7, 0, none⟩)) /\ w'.cell? ⟨m.k, 19, none⟩ = some (.int .i64 s.now))
  (exact jY.out _ (by repeat (first | assumption | exact Only.refl _ _ | apply Only.drew | apply Only.alloc | refine Only.setCell ?_ (fun hlt => absurd hlt (Nat.lt_irrefl _)) _)))
  (first | (go_at_call 209; (with_reducible refine (hrel.out _ (by repeat (first | exact Only.refl _ _ | apply Only.drew | apply Only.alloc))).mono ?_); rintro _ w1 ⟨rfl, o', m', hR, hb, hO, hn⟩; have hOw := Only.trans' (a := w) (by repeat (first | exact Only.refl _ _ | apply Only.drew | apply Only.alloc)) hO; unfold Jb.val; dsimp only; (first | (obtain ⟨z0, z1, z2, z3, z4, z5, zl⟩ := hY.out _ _ hO (zAB _ _ rfl)) | skip); have hO' := zh hO; have hn' := zh hn; have hR' := zh hR; have hb' := zh hb; clear hO hn hR hb))
 all_goals
  obtain ⟨Y, W, eY, eW, hX⟩ : ∃ Y W, Hid (Y = _) /\ Hid (W = _) /\ Rel0 w c m (relA s t) (relJ s t) Y W := by
   first
    | exact ⟨_, _, rfl, rfl, hB.out w1 o' m' hR' hb' hO' hn'⟩
    | exact ⟨_, _, rfl, rfl, hA.out _ w1 o' m' (by repeat (first | exact Only.refl _ _ | apply Only.drew | apply Only.alloc)) hR' hb' hO' hn'⟩
  have eY2 := eY.out
  have eW2 := eW.out
  clear eY eW
  simp only [<- eW2]
  simp only [<- eY2]
  clear eY2 eW2 hOw hO' hn' hR' hb' jY hrel hY hA hB c6 c19 hlt
  try clear z0 z1 z2 z3 z4 z5 zl
  obtain ⟨⟨m1, hKT, ek, ej, hYn⟩, hYr⟩ := hX
  have hK1 := hKT.1
  have c7 := zAA hK1.root (i := 13) rfl
  have c17 := zAA hK1.root (i := 17) rfl
  have jBm := (hK1.lt 0 m1.k rfl).1
  obtain ⟨pe, ce, hve, hce, jDv⟩ := Win.form (show Win W 146 13 m1.ve m1.oe s.ents.length (rowC Et.cells s.ents) from hK1.p 14)
  obtain ⟨ne, hne⟩ : ∃ ne, ne = s.ents.length := ⟨_, rfl⟩
  rw [hve, <- hne, ek] at c17
  rw [ek] at c7 jBm
  have y0 := zAA hYr (i := 0) rfl
  have y1 := zAA hYr (i := 1) rfl
  have y2 := zAA hYr (i := 2) rfl
  have yl := zAG hYr
  have hput := zh (fun nq => zTD (x := relJ s t) ((show PlAt W m1.b8 s.ps from hK1.p 10).kept ((Only.refl (fun _ => False) W).drewN nq) id) jFw.out ne (show Jb.fine _ from ⟨⟨by show _ <= (t : Int); omega, by show (t : Int) <= _; omega⟩, ⟨by show _ <= ((s.nx t : Nat) : Int); omega, by show ((s.nx t : Nat) : Int) <= _; omega⟩, by show _ <= s.now; omega, by show s.now <= _; omega⟩) xU.out)
  unfold relJ Jb.val at hput
  dsimp only at hput
  have hX' := zh (And.intro hKT (And.intro ek (And.intro ej (And.intro hYn hYr))))
  have kE := zh hne
  have jFx := zh hve
  rw [<- hne] at hel hce
  unfold relJ at y0 y1 y2
  dsimp only at y0 y1 y2
  clear hK1 hKT ek ej hYn hYr hne hve
  go_upto_region 3 with fail
  refine zAD 10 (by kernel_rfl) (by kernel_rfl) ?_
  simp only [List.take_succ_cons, List.take_zero, List.drop_succ_cons, List.drop_zero]
  repeat (go_big_quiet_step (fail))
  refine wpQuiet_nil ?_
  rintro _ ⟨nq, rfl⟩
  obtain ⟨w2, hrun, hP2, hO2⟩ := hput.out nq
  go_wp2_with fail
  obtain ⟨hKT, ek, ej, hYn, hYr⟩ := hX'.out
  have hP3 : PlAt w2 m1.b8 (s.ps ++ [(relJ s t, s.ents.length)]) := by rw [<- kE.out]; exact hP2
  have hK2 : KT w c m w2 m1 (relB s t) := (hKT.new ((Only.refl (fun _ => False) W).drewN nq)).trans ((hKT.1.new ((Only.refl (fun _ => False) W).drewN nq)).plc_ hP3 hO2)
  have hOW := ((Only.refl (fun k => k = m1.b8) W).drewN nq).trans' hO2
  have g17 := hOW.cell c17 (fun e => hKT.1.ap 0 10 (by decide) _ (show m.k = m1.k from ek.symm) e)
  have hlt2 := Nat.lt_of_lt_of_le jBm hOW.size
  have hY2 := hOW.heap hYr (fun e => hYn ⟨10, e⟩)
  unfold relJ at hY2
  have v0 := zAA hY2 (i := 0) rfl
  have v1 := zAA hY2 (i := 1) rfl
  have v2 := zAA hY2 (i := 2) rfl
  have vl := zAG hY2
  have hwa := zh (fun W0 => zIS W0 (relJ s t))
  have xM := zh (fun W0 (hW0 : Only (fun _ => False) w2 W0) => show Win W0 146 13 (.slice pe ne ce) m1.oe ne (rowC Et.cells s.ents) from by
   have := Win.kept (show Win w2 146 13 m1.ve m1.oe s.ents.length (rowC Et.cells s.ents) from hK2.1.p 14) hW0 (fun _ _ h => h)
   rw [jFx.out, <- kE.out] at this
   exact this)
  have xW := zh (fun W0 w3 (hW0 : Only (fun _ => False) w2 W0) (h3 : Only (fun x => some x = m1.oe) W0 w3) => show m.k < w3.heap.size /\ w3.frozen? ⟨m.k, 17, none⟩ = false /\ w3.cell? ⟨m.k, 17, none⟩ = some (.slice pe ne ce) from by
   have hr2 := hK2.1.root
   rw [ek] at hr2
   have hko : ¬ some m.k = m1.oe := fun e => hKT.1.ap 14 0 (by decide) m.k e.symm ek.symm
   have hb3 := h3.heap (hW0.heap hr2 id) hko
   exact ⟨zAG hb3, zAC hb3 17, h3.cell (hW0.cell g17 id) hko⟩)
  have hK3 := zh (fun W0 w3 v' o'' (hW0 : Only (fun _ => False) w2 W0) (hE3 : Hid (Win w3 146 13 v' o'' (ne + 1) (rowC Et.cells s.ents ++ (jM (relJ s t)).cells))) (h3 : Hid (Only (fun x => some x = m1.oe) W0 w3)) (hh : Hid (o'' = m1.oe ∨ ∃ g, o'' = some g /\ W0.heap.size <= g)) => show KNow w c m (relC s t) (w3.setCell ⟨m.k, 17, none⟩ v') /\ (w3.setCell ⟨m.k, 17, none⟩ v').heap[Y]? = some (.cells (relJ s t).cells.toArray 178 (0, 0)) from by
   have h9 := hK2.1.entAdd (x := jM (relJ s t)) hW0 (by show Win w3 146 13 v' o'' (s.ents.length + 1) _; rw [<- kE.out]; exact hE3.out) h3.out hh.out
   rw [ek] at h9
   refine ⟨?_, ?_⟩
   ·obtain ⟨m9, k9, e9, f9⟩ := h9
    exact ⟨m9, hK2.trans k9, e9.trans ek, f9.trans ej⟩
   ·refine zAH (h3.out.heap (hW0.heap hY2 id) (fun e => hYn ⟨14, e.symm⟩)) (fun e => hYn ⟨0, ?_⟩) _
    exact (show Y = m.k from e).trans ek.symm)
  unfold jM Et.val Jb.val relJ at hwa
  dsimp only at hwa
  clear hrun hP2 hP3 hO2 c7 c17 jBm y0 y1 y2 yl hput hKT ek ej hYn hYr hK2 hOW hX'
  have jCl : ne + 1 <= maxLen := by unfold maxLen; omega
  go_region_law (first
   | (refine zCF rfl Tryz.func211 (by kernel_rfl) rfl _ _ rfl [.agg #[.int .i64 t, .int .i64 (s.nx t), .int .i64 s.now]] rfl (hwa.out _) ?_; rintro e w4 ⟨rfl, ho4⟩; have zY := Only.trans' (a := w2) (by repeat (first | assumption | exact Only.refl _ _ | refine Only.drew ?_ | refine Only.alloc ?_ _)) ho4; have jIs := zY.cell g17 id; have jIt := Nat.lt_of_lt_of_le hlt2 zY.size; have hY4 := zY.heap hY2 id; have u0 := zAA hY4 (i := 0) rfl; have u1 := zAA hY4 (i := 1) rfl; have u2 := zAA hY4 (i := 2) rfl; have ul := zAG hY4; clear ho4 hY4; refine ⟨_, rfl, ?_⟩)
   | (refine zBE rfl (.tmp 43) (.tmp 46) 121 rfl 146 zet.val 13 104 Tryz.underlying121 zRK rfl (by decide) (v := .slice pe ne ce) (h := m1.oe) (by rfl) (xM.out _ (by repeat (first | assumption | exact Only.refl _ _ | refine Only.drew ?_ | refine Only.alloc ?_ _))) _ 1 1 (by rfl) (jM (relJ s t)).cells rfl (fun _ => ⟨_, rfl, zGH (zAB _ _ (by simp))⟩) (zS8 _) jCl (by omega) ?_; intro v6 w6 h6 hW6 hO6 hh6; obtain ⟨p6, c6, rfl, _, _⟩ := hW6.out.form; obtain ⟨m5, m6, m7⟩ := xW.out _ w6 (by repeat (first | assumption | exact Only.refl _ _ | refine Only.drew ?_ | refine Only.alloc ?_ _)) hO6.out; have hE6 := zh (hK3.out _ w6 _ h6 (by repeat (first | assumption | exact Only.refl _ _ | refine Only.drew ?_ | refine Only.alloc ?_ _)) hW6 hO6 hh6)))
  all_goals
   obtain ⟨hF, hYf⟩ := hE6.out
   have t0 := zAA hYf (i := 0) rfl
   have t1 := zAA hYf (i := 1) rfl
   have t2 := zAA hYf (i := 2) rfl
   have tl := zAG hYf
   obtain ⟨m5, k5, e5, f5⟩ := hF
   have zN := zh (zDT k5.1 htr t (s.nx t) ⟨0, 1, 0, 0, 0, 0, 0⟩)
   unfold ptr Rc.val KEnd at zN
   rw [e5] at zN
   have jE := zh (fun w9 (hk : KNow (w6.setCell ⟨m.k, 17, none⟩ (.slice p6 (ne + 1) c6)) c m5 (vD (relC s t) t (s.nx t) ⟨0, 1, 0, 0, 0, 0, 0⟩) w9) => show Z w9 from by
    rw [hZ'.out]
    obtain ⟨m9, k9, e9, f9⟩ := hk
    exact ⟨m9, k5.trans k9, e9.trans e5, f9.trans f5⟩)
   clear hYf k5 e5 f5 hE6 xW hK3 xM hwa g17 hlt2 hY2 v0 v1 v2 vl
   go_wp2_with fail
   refine zN.out.mono ?_
   rintro e9 w9 ⟨rfl, hk9⟩
   go_wp2
   go_end0
   exact ⟨rfl, jE.out _ hk9⟩
set_option maxHeartbeats 2000000 in
theorem zHP (h : KAt w c m s) {t : Nat} (ht : t < c.ts.length) (hnx : s.nx t <= 1000000) (_ : 0 <= s.now /\ s.now <= 1000000000) (htr : s.tr.length <= 1000000000) (hroom : ¬ (s.q t).length < 4) :
  Calls Tryz.prog 151 #[ptr m.k, .int .i64 t] w (KEnd w c m (vD (relN s t) t (s.nx t) ⟨0, 2, 0, 0, 0, 7, 0⟩) (.tuple #[])) := by
 obtain ⟨hRd, hBt⟩ := h.p 9
 have hA := zh (fun w0 w1 o' m' (h0 : Only (fun _ => False) w w0) (hR : Hid (RdAt w1 m.B m.r7 m.G7 m.s7 m.m7 c.ts.length c.P (upd s.nx t (s.nx t + 1)) m.ring o' (qj s) m')) (hb : Hid (Bits c.ts.length c.P (qj s) m')) (hO : Hid (Only (rfp m.r7 m.G7 m.s7 m.m7 c.ts.length m.ring m.o7) w0 w1)) (hn : Hid (∀ k, rfp m.r7 m.G7 m.s7 m.m7 c.ts.length m.ring o' k -> rfp m.r7 m.G7 m.s7 m.m7 c.ts.length m.ring m.o7 k ∨ w0.heap.size <= k)) =>
  show Rel0 w c m (relN s t) (relJ s t) w1.heap.size (w1.alloc (.cells #[.int .i64 t, .int .i64 (s.nx t), .int .i64 s.now] 178)) from zP9 (s1 := relN s t) (q' := s.q) h rfl h0 hR.out hb.out hO.out hn.out (relJ s t))
 have hB := zh (fun w1 o' m' (hR : Hid (RdAt w1 m.B m.r7 m.G7 m.s7 m.m7 c.ts.length c.P (upd s.nx t (s.nx t + 1)) m.ring o' (qj s) m')) (hb : Hid (Bits c.ts.length c.P (qj s) m')) (hO : Hid (Only (rfp m.r7 m.G7 m.s7 m.m7 c.ts.length m.ring m.o7) ((w.alloc (.cells #[.int .i64 0, .int .i64 0, .int .i64 0] 178)).drew) w1)) (hn : Hid (∀ k, rfp m.r7 m.G7 m.s7 m.m7 c.ts.length m.ring o' k -> rfp m.r7 m.G7 m.s7 m.m7 c.ts.length m.ring m.o7 k ∨ ((w.alloc (.cells #[.int .i64 0, .int .i64 0, .int .i64 0] 178)).drew).heap.size <= k)) =>
  show Rel0 w c m (relN s t) (relJ s t) w.heap.size (((w1.setCell ⟨w.heap.size, 0, none⟩ (.int .i64 t)).setCell ⟨w.heap.size, 1, none⟩ (.int .i64 (s.nx t))).setCell ⟨w.heap.size, 2, none⟩ (.int .i64 s.now)) from zQA (s1 := relN s t) (q' := s.q) h rfl hR.out hb.out hO.out hn.out (relJ s t))
 have jY := zh (fun W (hO : Only (rfp m.r7 m.G7 m.s7 m.m7 c.ts.length m.ring m.o7) w W) => show W.cell? ⟨m.k, 12, none⟩ = some (.pointer (some ⟨m.r7, 0, none⟩)) /\ W.cell? ⟨m.k, 19, none⟩ = some (.int .i64 s.now) from ⟨hO.cell (zAA h.root (i := 12) rfl) (fun hh => h.ap 9 0 (by decide) _ hh rfl), hO.cell (zAA h.root (i := 19) rfl) (fun hh => h.ap 9 0 (by decide) _ hh rfl)⟩)
 have hY := zh (fun W0 w1 (hO : Only (rfp m.r7 m.G7 m.s7 m.m7 c.ts.length m.ring m.o7) W0 w1) (hn : W0.heap[w.heap.size]? = some (.cells [Value.int .i64 0, .int .i64 0, .int .i64 0].toArray 178 (0, 0))) => show w1.cell? ⟨w.heap.size, 0, none⟩ = some (.int .i64 0) /\ w1.cell? ⟨w.heap.size, 1, none⟩ = some (.int .i64 0) /\ w1.cell? ⟨w.heap.size, 2, none⟩ = some (.int .i64 0) /\ w1.frozen? ⟨w.heap.size, 0, none⟩ = false /\ w1.frozen? ⟨w.heap.size, 1, none⟩ = false /\ w1.frozen? ⟨w.heap.size, 2, none⟩ = false /\ w.heap.size < w1.heap.size from by
  have hb1 := hO.heap hn (fun hk => by have := (hRd.lt _ hk).1; omega)
  exact ⟨zAA hb1 (i := 0) rfl, zAA hb1 (i := 1) rfl, zAA hb1 (i := 2) rfl, zAC hb1 0, zAC hb1 1, zAC hb1 2, zAG hb1⟩)
 have hrl : ¬ (qj s t).length < 4 := by unfold qj; rw [List.length_map]; exact hroom
 have hrel := zh (fun W (hW : Only (fun _ => False) w W) => Go.Proofs.YtlbdjiiddofkgaaGreatDoor.release_any (hRd.new hW) hBt ht hnx s.now)
 simp only [if_neg hrl] at hrel
 have c6 := zAA h.root (i := 12) rfl
 have c19 := zAA h.root (i := 19) rfl
 have hlt := (h.lt 0 m.k rfl).1
 unfold KEnd
 obtain ⟨Z, hZ⟩ : ∃ Z, Z = KNow w c m (vD (relN s t) t (s.nx t) ⟨0, 2, 0, 0, 0, 7, 0⟩) := ⟨_, rfl⟩
 rw [<- hZ]
 have hZ' := zh hZ
 unfold ptr at *
 clear h hRd hBt hZ hrl hroom
 go_enter Tryz.func151, Tryz.ntmps151
 go_upto_region 0 with fail
 go_region_held3 (fun w' => w'.cell? ⟨m.k, 12, none⟩ = some (.pointer (some ⟨m.r7, 0, none⟩)) /\ w'.cell? ⟨m.k, 19, none⟩ = some (.int .i64 s.now))
  (exact jY.out _ (by repeat (first | assumption | exact Only.refl _ _ | apply Only.drew | apply Only.alloc | refine Only.setCell ?_ (fun hlt => absurd hlt (Nat.lt_irrefl _)) _)))
  (first | (go_at_call 209; (with_reducible refine (hrel.out _ (by repeat (first | exact Only.refl _ _ | apply Only.drew | apply Only.alloc))).mono ?_); rintro _ w1 ⟨rfl, o', m', hR, hb, hO, hn⟩; have hOw := Only.trans' (a := w) (by repeat (first | exact Only.refl _ _ | apply Only.drew | apply Only.alloc)) hO; unfold Jb.val; dsimp only; (first | (obtain ⟨z0, z1, z2, z3, z4, z5, zl⟩ := hY.out _ _ hO (zAB _ _ rfl)) | skip); have hO' := zh hO; have hn' := zh hn; have hR' := zh hR; have hb' := zh hb; clear hO hn hR hb))
 all_goals
  obtain ⟨Y, W, eY, eW, hX⟩ : ∃ Y W, Hid (Y = _) /\ Hid (W = _) /\ Rel0 w c m (relN s t) (relJ s t) Y W := by
   first
    | exact ⟨_, _, rfl, rfl, hB.out w1 o' m' hR' hb' hO' hn'⟩
    | exact ⟨_, _, rfl, rfl, hA.out _ w1 o' m' (by repeat (first | exact Only.refl _ _ | apply Only.drew | apply Only.alloc)) hR' hb' hO' hn'⟩
  have eY2 := eY.out
  have eW2 := eW.out
  clear eY eW
  simp only [<- eW2]
  simp only [<- eY2]
  clear eY2 eW2 hOw hO' hn' hR' hb' jY hrel hY hA hB c6 c19 hlt
  try clear z0 z1 z2 z3 z4 z5 zl
  obtain ⟨⟨m1, hKT, ek, ej, hYn⟩, hYr⟩ := hX
  have y0 := zAA hYr (i := 0) rfl
  have y1 := zAA hYr (i := 1) rfl
  have y2 := zAA hYr (i := 2) rfl
  have yl := zAG hYr
  unfold relJ at y0 y1 y2
  dsimp only at y0 y1 y2
  have zN := zh (zDT hKT.1 htr t (s.nx t) ⟨0, 2, 0, 0, 0, 7, 0⟩)
  unfold ptr Rc.val KEnd at zN
  rw [ek] at zN
  have jE := zh (fun w9 (hk : KNow W c m1 (vD (relN s t) t (s.nx t) ⟨0, 2, 0, 0, 0, 7, 0⟩) w9) => show Z w9 from by
   rw [hZ'.out]
   obtain ⟨m9, k9, e9, f9⟩ := hk
   exact ⟨m9, hKT.trans k9, e9.trans ek, f9.trans ej⟩)
  clear hKT ek ej hYn hYr
  go_wp2_with fail
  refine zN.out.mono ?_
  rintro e9 w9 ⟨rfl, hk9⟩
  go_wp2
  exact bodyPost_ret (v := .tuple #[]) (by simp [results, Tryz.results151, go_sem]) rfl ⟨rfl, jE.out _ hk9⟩
theorem zHQ (h : KAt w c m s) {t : Nat} (ht : t < c.ts.length) (hnx : s.nx t <= 1000000) (hpf : ∀ q ∈ s.ps, Jb.fine q.1) (hnew : ∀ q ∈ s.ps, q.1 ≠ relJ s t) (hnow : 0 <= s.now /\ s.now <= 1000000000) (hel : s.ents.length <= 1000000000) (htr : s.tr.length <= 1000000000) (htn : c.ts.length <= 1000) :
  Calls Tryz.prog 151 #[ptr m.k, .int .i64 t] w (KEnd w c m (relF s t) (.tuple #[])) := by
 unfold relF
 by_cases hr : (s.q t).length < 4
 ·rw [if_pos hr]
  exact zHO h ht hnx hpf hnew hnow hel htr htn hr
 ·rw [if_neg hr]
  exact zHP h ht hnx hnow htr hr
end
section
variable {w w' : World} {c : KC} {m : KM} {s : KS}
theorem KAt.bjTurn (h : KAt w c m s) {i : Nat} {b : Bm} {x x' : Bj} (hm : m.js[i]? = some b) (hx : s.jobs[i]? = some x) (hb : BjAt w' b x') (ho : Only b.fp w w') : KT w c m w' m { s with jobs := s.jobs.set i x' } := by
 obtain ⟨hW, hJ, hap⟩ := h.p 11
 have hil := (List.getElem?_eq_some_iff.1 hx).1
 refine h.job_ (xs := s.jobs.set i x') ⟨?_, ⟨?_, fun j n y hn hy => ?_, hJ.2.2⟩, hap⟩ (ho.mono fun k _ hk => .inr ⟨b, List.mem_of_getElem? hm, hk⟩)
 ·rw [List.length_set]
  exact hW.kept ho (fun k hk hk' => hap i b hm k hk' hk)
 ·rw [List.length_set]; exact hJ.1
 ·by_cases hji : j = i
  ·subst hji
   rw [hm] at hn
   cases hn
   rw [List.getElem?_set_self hil] at hy
   cases hy
   exact hb
  ·rw [List.getElem?_set_ne (fun e => hji e.symm)] at hy
   exact (hJ.2.1 j n y hn hy).kept ho (fun k hk hk' => hJ.2.2 i j b n hm hn (fun e => hji e.symm) k hk' hk)
theorem KAt.bjCov (h : KAt w c m s) {i : Nat} {b : Bm} {x : Bj} (hm : m.js[i]? = some b) (hx : s.jobs[i]? = some x) (v : Bool) : KT w c m (w.setCell ⟨b.b, 2, none⟩ (.bool v)) m { s with jobs := s.jobs.set i { x with cov := v } } := by
 obtain ⟨h1, h2, h3⟩ := h.begun hm hx
 have hne : ∀ k, jfp b.jb b.jo k -> k ≠ b.b := by
  intro k hk e
  subst e
  rcases hk with hk | hk
  ·obtain ⟨v, g1, -⟩ := h2
   rw [<- hk, h1] at g1
   simp at g1
  ·obtain ⟨v, -, ⟨-, p, cap, -, -, -, h5⟩, -⟩ := h2
   rcases h5 with ⟨h5, -⟩ | ⟨g, off, L, e1, -, e3, -⟩
   ·rw [h5] at hk; cases hk
   ·rw [hk] at e1
    cases e1
    rw [h1] at e3
    simp at e3
 have ho : Only (fun k => k = b.b) w (w.setCell ⟨b.b, 2, none⟩ (.bool v)) := (Only.refl (fun k => k = b.b) w).setCell (p := ⟨b.b, 2, none⟩) (fun _ => rfl) _
 exact h.bjTurn hm hx (x' := { x with cov := v }) ⟨zAE h1 2 _, h2.kept ho (fun k hk e => hne k hk e), h3⟩ (ho.mono fun k _ e => .inl e)
theorem KAt.bjJob (h : KAt w c m s) {i : Nat} {b : Bm} {x : Bj} (hm : m.js[i]? = some b) (hx : s.jobs[i]? = some x) {j' : Jz} (hJ : JbAt w' b.jb b.jo j') (hk : j'.Ok) (ho : Only (fun k => k = b.jb) w w') : KT w c m w' m { s with jobs := s.jobs.set i { x with j := j' } } := by
 obtain ⟨h1, h2, h3⟩ := h.begun hm hx
 have hne : b.b ≠ b.jb := by
  intro e
  obtain ⟨v, g1, -⟩ := h2
  rw [<- e, h1] at g1
  simp at g1
 exact h.bjTurn hm hx (x' := { x with j := j' }) ⟨ho.heap h1 hne, hJ, hk⟩ (ho.mono fun k _ e => .inr (.inl e))
def resF (s : KS) (i : Nat) (x : Bj) (e : Et) : KS := if x.cov = true then vD { s with jobs := s.jobs.set i { x with cov := false } } e.ta e.jb ⟨0, 5, 0, 0, 0, 0, 0⟩ else s
theorem zIV (k : Nat) (w : World) : Calls Tryz.prog 159 #[ptr k, .pointer none] w (GrowV (.tuple #[]) w) := by
 unfold ptr
 go_enter Tryz.func159, Tryz.ntmps159
 go_wp2
 exact bodyPost_ret (v := .tuple #[]) (by simp [results, Tryz.results159, go_sem]) rfl ⟨rfl, Only.refl _ _⟩
theorem zFJ (h : KAt w c m s) {i : Nat} {b : Bm} {x : Bj} {e : Et} (hm : m.js[i]? = some b) (hx : s.jobs[i]? = some x) (he : s.ents[x.p]? = some e) (htr : s.tr.length <= 1000000000) : Calls Tryz.prog 159 #[ptr m.k, ptr b.b] w (KEnd w c m (resF s i x e) (.tuple #[])) := by
 obtain ⟨h1, h2, h3⟩ := h.begun hm hx
 have b1 := zAA h1 (i := 1) rfl
 have b2 := zAA h1 (i := 2) rfl
 have bf := zAC h1 2
 have bl := zAG h1
 unfold resF
 cases hc : x.cov with
 | false =>
  rw [hc] at b2
  rw [if_neg (by decide)]
  have hk := h.know (Only.refl (fun _ => False) w)
  unfold ptr KEnd
  clear h h1 h2 h3
  go_enter Tryz.func159, Tryz.ntmps159
  go_wp2
  exact bodyPost_ret (v := .tuple #[]) (by simp [results, Tryz.results159, go_sem]) rfl ⟨rfl, hk⟩
 | true =>
  rw [hc] at b2
  rw [if_pos rfl]
  have hK := h.bjCov hm hx false
  have jX := zh (zDI hK.1 (p := x.p) (x := e) htr he ⟨0, 5, 0, 0, 0, 0, 0⟩)
  have jE := zh (fun w2 (hk : KNow (w.setCell ⟨b.b, 2, none⟩ (.bool false)) c m (vD { s with jobs := s.jobs.set i { x with cov := false } } e.ta e.jb ⟨0, 5, 0, 0, 0, 0, 0⟩) w2) => hK.know rfl rfl hk)
  unfold ptr Rc.val KEnd at *
  have hlt := (h.lt 0 m.k rfl).1
  clear h h1 h2 h3 hK
  go_enter Tryz.func159, Tryz.ntmps159
  go_wp2_with fail
  refine jX.out.mono ?_
  rintro e1 w1 ⟨rfl, hk⟩
  go_wp2
  go_end0
  exact ⟨rfl, jE.out _ hk⟩
theorem zFK (h : KAt w c m s) (a : Int) : Calls Tryz.prog 153 #[ptr m.k, .int .i64 a, .bool false] w (KEnd w c m s (.tuple #[])) := by
 have hk := h.know (Only.refl (fun _ => False) w)
 unfold ptr KEnd
 clear h
 go_enter Tryz.func153, Tryz.ntmps153
 go_wp2
 go_end0
 exact ⟨rfl, hk⟩
theorem KAt.owner (h : KAt w c m s) {i : Nat} {z : Int} (hz : c.li[i]? = some z) : ∃ g off cap n, w.cell? ⟨m.k, 9, none⟩ = some (.slice (some ⟨g, off, none⟩) n cap) /\ n = c.li.length /\ i < n /\ g < w.heap.size /\ w.cell? ⟨g, off + i, none⟩ = some (.int .i64 z) := by
 have hi := (List.getElem?_eq_some_iff.1 hz).1
 obtain ⟨g, off, cap, h1, h2, h3, h4, h5, h6, h7⟩ := Win.at_ (show Win w 3 1 m.li.val m.lb c.li.length (c.li.map fun z => .int .i64 z) from (h.p 6).1) (by omega)
 refine ⟨g, off, cap, _, ?_, rfl, hi, h5, h6 i _ (by rw [List.getElem?_map, hz]; rfl)⟩
 rw [<- h2]
 exact zAA h.root (i := 9) rfl
theorem zEW (h : KAt w c m s) {i t : Nat} {S : KS} (ht : c.li[i]? = some (t : Int)) (hrel : ∀ W, Only (fun _ => False) w W -> Calls Tryz.prog 151 #[ptr m.k, .int .i64 t] W (KEnd W c m S (.tuple #[]))) : Calls Tryz.prog 153 #[ptr m.k, .int .i64 i, .bool true] w (KEnd w c m S (.tuple #[])) := by
 obtain ⟨g, off, cap, n, c9, -, hi, hg, hc⟩ := h.owner ht
 have hlt := (h.lt 0 m.k rfl).1
 have hr := zh (hrel w (Only.refl _ w))
 unfold ptr KEnd at *
 clear h hrel ht
 go_enter Tryz.func153, Tryz.ntmps153
 go_wp2_with fail
 refine hr.out.mono ?_
 rintro e1 w1 ⟨rfl, hk⟩
 go_wp2
 go_end0
 exact ⟨rfl, hk⟩
end
def cntZ (n : Int) : Int := min (max n 0) 1073741824
theorem zC7 (n : Int) (w : World) : Calls Tryz.prog 221 #[.int .i64 n] w (RetI (cntZ n) w) := by
 by_cases h0 : 0 <= n
 ·by_cases h1 : n <= 1073741824
  ·have e : cntZ n = n := by unfold cntZ; omega
   rw [e]
   clear e
   go_enter Tryz.func221, Tryz.ntmps221
   go_wp2
   all_goals
    go_ret
    exact ⟨by congr 2 <;> omega, rfl⟩
  ·have e : cntZ n = 1073741824 := by unfold cntZ; omega
   rw [e]
   clear e
   go_enter Tryz.func221, Tryz.ntmps221
   go_wp2
   all_goals
    go_ret
    exact ⟨by congr 2 <;> omega, rfl⟩
 ·have e : cntZ n = 0 := by unfold cntZ; omega
  rw [e]
  clear e
  go_enter Tryz.func221, Tryz.ntmps221
  go_wp2
  all_goals
   go_ret
   exact ⟨by congr 2 <;> omega, rfl⟩
def ofZ (x : Opn) (h mi : Int) (hit : Bool) : Int := if x.k = 1 then cntZ x.a else if x.k ≠ 2 then 1 else if hit then cntZ h else cntZ mi
theorem zHR (x : Opn) (h mi : Int) (hit : Bool) : 0 <= ofZ x h mi hit /\ ofZ x h mi hit <= 1073741824 := by
 unfold ofZ cntZ
 split
 ·omega
 ·split
  ·omega
  ·split <;> omega
theorem zER (x : Opn) (s wy h mi : Int) (hit : Bool) (w : World) : Calls Tryz.prog 163 #[x.val, .agg #[.int .i64 s, .int .i64 wy, .int .i64 h, .int .i64 mi], .bool hit] w (GrowI (ofZ x h mi hit) w) := by
 obtain ⟨k, a, b⟩ := x
 unfold Opn.val
 by_cases h1 : k = 1
 ·have e : ofZ ⟨k, a, b⟩ h mi hit = cntZ a := by simp [ofZ, h1]
  rw [e]
  subst h1
  clear e
  go_enter Tryz.func163, Tryz.ntmps163
  go_wp2_with (go_at_call 221; refine (zC7 a _).mono ?_; rintro e w' ⟨rfl, rfl⟩)
  go_ret
  exact ⟨rfl, ((Only.refl _ w).alloc _).alloc _⟩
 ·by_cases h2 : k = 2
  ·subst h2
   cases hit
   ·have e : ofZ ⟨2, a, b⟩ h mi false = cntZ mi := by simp [ofZ]
    rw [e]
    clear e
    go_enter Tryz.func163, Tryz.ntmps163
    go_wp2_with (go_at_call 221; refine (zC7 mi _).mono ?_; rintro e w' ⟨rfl, rfl⟩)
    go_ret
    exact ⟨rfl, ((Only.refl _ w).alloc _).alloc _⟩
   ·have e : ofZ ⟨2, a, b⟩ h mi true = cntZ h := by simp [ofZ]
    rw [e]
    clear e
    go_enter Tryz.func163, Tryz.ntmps163
    go_wp2_with (go_at_call 221; refine (zC7 h _).mono ?_; rintro e w' ⟨rfl, rfl⟩)
    go_ret
    exact ⟨rfl, ((Only.refl _ w).alloc _).alloc _⟩
  ·have e : ofZ ⟨k, a, b⟩ h mi hit = 1 := by simp [ofZ, h1, h2]
   rw [e]
   clear e
   have g1 : (k == 1) = false := by simpa using h1
   have g2 : (k == 2) = false := by simpa using h2
   go_enter Tryz.func163, Tryz.ntmps163
   go_wp2
   go_ret
   exact ⟨rfl, ((Only.refl _ w).alloc _).alloc _⟩
end Krn
end Go.Proofs.YtlbdjiiddofkgaaGreatDoor
namespace Go.Proofs.YtlbdjiiddofkgaaGreatDoor
open Go Go.RowKit
theorem zMQ {j : Jz} {x : Opn} (h : j.Ok) (hx : opOf j = some x) {cost : Int} (hc : cost <= 9223372036854775807) : (beginF j x cost).1.Ok := by
 obtain ⟨_, _, h3⟩ := zDH hx
 have hlt := (List.getElem?_eq_some_iff.1 h3).1
 obtain ⟨s1, s2, s3, s4, s5, s6, s7⟩ := zGJ j x
 unfold beginF
 split
 ·exact ⟨by simp only; omega, by simp only; rw [s5]; exact h.l, by simp only; rw [s1, s3]; exact h.n, by simp only; rw [s1, s3]; exact fun _ => hlt⟩
 ·exact ⟨by simp only; omega, by simp only; rw [s5]; exact h.l, by simp only; rw [s1, s3]; exact h.n, by simp only; rw [s1, s3]; exact fun _ => hlt⟩
section
variable {w ws w' : World} {B b : Nat} {j : Jz}
end
