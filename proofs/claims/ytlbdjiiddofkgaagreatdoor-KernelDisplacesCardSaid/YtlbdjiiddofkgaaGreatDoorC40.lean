import Derived.Test.YtlbdjiiddofkgaaGreatDoorC39
set_option maxRecDepth 100000
namespace Go.Proofs.YtlbdjiiddofkgaaGreatDoor
namespace Krn
open Go Go.RowKit Go.Maps Ring Band
def endA (s : KS) (p : Nat) : KS := { s with lkh := Lck.offH s.lkh (Lck.mine s.lkh s.lkd p), lkd := Lck.offD s.lkd (Lck.mine s.lkh s.lkd p) }
def endB (s : KS) (p : Nat) (fs : List Fr) : KS := { endA s p with fs := fs }
def endC (s : KS) (p : Nat) (fs : List Fr) (n : Nat) : KS := { endB s p fs with jobs := s.jobs.take n }
def endD (s : KS) (p : Nat) (fs : List Fr) (n : Nat) (e : Et) (fa : Bool) : KS := { endC s p fs n with ents := s.ents.set p { e with en := s.now, fa := fa } }
def endF (s : KS) (p : Nat) (fs : List Fr) (n : Nat) (e : Et) (fa : Bool) : KS := vD (endD s p fs n e fa) e.ta e.jb (if fa = true then ⟨0, 7, 0, 0, 0, 11, 0⟩ else ⟨0, 6, 0, 0, 0, 0, 0⟩)
section
variable {w w' : World} {c : KC} {m : KM} {s : KS}
set_option maxHeartbeats 2000000 in
theorem zRY (h : KAt w c m s) {n : Nat} {b : Bm} {x : Bj} {e : Et} {fs : List Fr} {fr : Fr} (hn : s.jobs.length = n + 1) (hb : m.js[n]? = some b) (hx : s.jobs[n]? = some x) (he : s.ents[x.p]? = some e) (hfs : s.fs = fs ++ [fr]) (hfr : fr.who = x.p) (hfl : fs.length <= 1000) (hnl : c.nl <= 4096) (hnn : n <= 1000) (htr : s.tr.length <= 1000000000) :
  Calls Tryz.prog 109 #[ptr m.k, ptr b.b] w (fun e' w' => e' = .returned (.tuple #[]) /\ ∃ m', KT w c m w' m' (endF s x.p fs n e x.j.fault) /\ m'.k = m.k /\ m'.js = m.js.take n) := by
 obtain ⟨h1, h2, h3⟩ := h.begun hb hx
 have hfp : ∀ k, b.fp k -> foot c m 11 k := fun k hk => h.begunFoot hb hk
 have c3 := zAA h.root (i := 3) rfl
 have c9 := zAA h.root (i := 15) rfl
 have b1 := zAA h1 (i := 1) rfl
 have hlt := (h.lt 0 m.k rfl).1
 have hbl := zAG h1
 have wT := zh (fun nq => Lck.free_any ((show Lck.LkAt w m.b4 m.g4 c.nl c.ceil s.lkh s.lkd from h.p 4).new ((Only.refl _ w).drewN nq)) hnl x.p)
 have hA := zh (fun nq w1 (hL : Lck.LkAt w1 m.b4 m.g4 c.nl c.ceil (Lck.offH s.lkh (Lck.mine s.lkh s.lkd x.p)) (Lck.offD s.lkd (Lck.mine s.lkh s.lkd x.p))) (hO : Only (fun k => k = m.g4) (w.drewN nq) w1) => show KT w c m w1 m (endA s x.p) /\ w1.heap[b.b]? = w.heap[b.b]? from by
  have hK := (h.new ((Only.refl (fun _ => False) w).drewN nq)).lck_ hL (hO.mono (fun _ _ hk => .inr hk))
  exact ⟨(h.ktNew ((Only.refl (fun _ => False) w).drewN nq)).trans hK, hO.block b.b (by exact hbl) (fun e => h.ap 11 4 (by decide) b.b (hfp _ (.inl rfl)) (.inr e))⟩)
 have h' := zh (And.intro h (And.intro h1 (And.intro h2 (And.intro hb (And.intro he (And.intro hn (And.intro hfs (And.intro hfr hx))))))))
 obtain ⟨Z, hZ⟩ : ∃ Z : World -> Prop, Z = fun w' => ∃ m', KT w c m w' m' (endF s x.p fs n e x.j.fault) /\ m'.k = m.k /\ m'.js = m.js.take n := ⟨_, rfl⟩
 have hZ' := zh hZ
 show Calls Tryz.prog 109 #[ptr m.k, ptr b.b] w (fun e' w' => e' = .returned (.tuple #[]) /\ (fun w' => ∃ m', KT w c m w' m' (endF s x.p fs n e x.j.fault) /\ m'.k = m.k /\ m'.js = m.js.take n) w')
 rw [<- hZ]
 unfold ptr at *
 clear h h1 h2 h3 hfp hb hx he hn hfs hfr hZ
 go_enter Tryz.func109, Tryz.ntmps109
 go_upto_region 0 with fail
 refine zAD 9 (by kernel_rfl) (by kernel_rfl) ?_
 simp only [List.take_succ_cons, List.take_zero, List.drop_succ_cons, List.drop_zero]
 repeat (go_big_quiet_step (fail))
 refine wpQuiet_nil ?_
 rintro _ ⟨nq, rfl⟩
 go_wp2_with fail
 refine (wT.out nq).mono ?_
 rintro e1 w1 ⟨rfl, hL, hO⟩
 obtain ⟨hK1, jD7⟩ := hA.out nq w1 hL hO
 obtain ⟨h, h1, h2, hb, he, hn, hfs, hfr, hx⟩ := h'.out
 have h11 := jD7.trans h1
 have jGm := zAA hK1.1.root (i := 15) rfl
 have b1' := zAA h11 (i := 1) rfl
 have kD := (hK1.1.lt 0 m.k rfl).1
 have jB7 := zAG h11
 have hSt : StAt w1 m.b10 m.o10 s.pk (fs ++ [fr]) := hfs ▸ (show StAt w1 m.b10 m.o10 s.pk s.fs from hK1.1.p 12)
 have xK := zh (fun nq => hfr ▸ zS5 (hSt.new ((Only.refl (fun _ => False) w1).drewN nq)) hfl)
 have hB := zh (fun nq w2 (hS : StAt w2 m.b10 m.o10 s.pk fs) (hO2 : Only (fun k => k = m.b10) (w1.drewN nq) w2) => show KT w c m w2 m (endB s x.p fs) /\ w2.heap[b.b]? = w1.heap[b.b]? from by
  have hK := (hK1.1.new ((Only.refl (fun _ => False) w1).drewN nq)).stk_ (o10 := m.o10) hS (hO2.mono (fun _ _ hk => .inl hk)) (fun _ hk => .inl hk)
  exact ⟨(hK1.new ((Only.refl (fun _ => False) w1).drewN nq)).trans hK, hO2.block b.b (by exact jB7) (fun e => hK1.1.ap 11 12 (by decide) b.b (hK1.1.begunFoot hb (.inl rfl)) (.inl e))⟩)
 have hx1 := zh (And.intro hK1 h11)
 clear wT hA c3 c9 b1 hlt hbl hL hO hK1 jD7 h h1 h2 hb he hn hfs hfr hx h11 hSt
 go_upto_region 1 with fail
 refine zAD 8 (by kernel_rfl) (by kernel_rfl) ?_
 simp only [List.take_succ_cons, List.take_zero, List.drop_succ_cons, List.drop_zero]
 repeat (go_big_quiet_step (fail))
 refine wpQuiet_nil ?_
 rintro _ ⟨nq2, rfl⟩
 go_wp2_with fail
 refine (xK.out nq2).mono ?_
 rintro e2 w2 ⟨rfl, hS2, hO2⟩
 obtain ⟨hK2, jD8⟩ := hB.out nq2 w2 hS2 hO2
 obtain ⟨hK1, h11⟩ := hx1.out
 obtain ⟨h, h1, h2, hb, he, hn, hfs, hfr, hx⟩ := h'.out
 have h21 := jD8.trans h11
 obtain ⟨g, off, cap, hgo, hvj, hnc, hcm, hgk, hWj⟩ := hK2.1.jslice (n := n) hn
 obtain ⟨N, hN⟩ : ∃ N, N = n + 1 := ⟨_, rfl⟩
 have c14 := zAA hK2.1.root (i := 14) rfl
 change w2.cell? ⟨m.k, 14, none⟩ = some m.vj at c14
 rw [hvj, <- hN] at c14
 rw [<- hN] at hWj hnc
 have jCn := zAA h21 (i := 1) rfl
 have hlt2 := (hK2.1.lt 0 m.k rfl).1
 have jDl := zAG h21
 have hwr : IntKind.i64.wrap ((N : Int) - 1) = (n : Int) := by rw [IntWalk.i64_in _ (by omega)]; omega
 have hdel := zh (fun W0 (h0 : Only (fun _ => False) w2 W0) => zI2 (hWj.kept h0 (fun _ _ h => h)) hN hcm)
 have hC := zh (fun W0 w3 (h0 : Only (fun _ => False) w2 W0) (hW3 : Win w3 141 1 (.slice (some ⟨g, off, none⟩) n cap) (some g) n ((rowC bmV m.js).take n)) (hO3 : Only (fun x => x = g) W0 w3) => show (w3.cell? ⟨m.k, 14, none⟩ = some (.slice (some ⟨g, off, none⟩) N cap) /\ w3.frozen? ⟨m.k, 14, none⟩ = false /\ m.k < w3.heap.size) /\ ∃ m3, KT w c m (w3.setCell ⟨m.k, 14, none⟩ (.slice (some ⟨g, off, none⟩) n cap)) m3 (endC s x.p fs n) /\ m3.k = m.k /\ m3.js = m.js.take n /\ (∀ k, b.fp k -> ¬ kfp c m3 k) /\ BjAt (w3.setCell ⟨m.k, 14, none⟩ (.slice (some ⟨g, off, none⟩) n cap)) b x from by
  have hr3 := hO3.heap (h0.heap hK2.1.root id) (fun e => hgk e.symm)
  refine ⟨⟨(hO3.cell (h0.cell c14 id) (fun e => hgk e.symm)), zAC hr3 14, zAG hr3⟩, ?_⟩
  obtain ⟨m3, k3, e3, f3, g3⟩ := (hK2.1.new h0).popped (n := n) hn hb hgo hW3 hO3
  refine ⟨m3, (hK2.new h0).trans k3, e3, f3, g3, ?_⟩
  have hO4 : Only (fun k => k = m.k) w3 (w3.setCell ⟨m.k, 14, none⟩ (.slice (some ⟨g, off, none⟩) n cap)) := (Only.refl (fun k => k = m.k) w3).setCell (p := ⟨m.k, 14, none⟩) (fun _ => rfl) _
  have hd := ((hK2.1.begun hb hx).kept h0 (fun _ _ h => h)).kept hO3 (fun k hk e => (hK2.1.p 11).2.2 n b hb k hk (by rw [e]; exact hgo))
  exact hd.kept hO4 (fun k hk e => hK2.1.ap 11 0 (by decide) k (hK2.1.begunFoot hb hk) e))
 have hpre := zh (And.intro hb (And.intro he hx))
 clear xK hB jGm b1' kD jB7 hS2 hO2 hK2 jD8 hK1 h11 h h1 h2 hb he hn hfs hfr hx h21 hvj hgo hgk hWj hx1
 clear h'
 have hN' := zh hN
 clear hN
 have jCx := hcm
 unfold maxLen at jCx
 go_upto_region 2 with fail
 go_region_law (first
  | (refine zCF rfl Tryz.func168 (by kernel_rfl) rfl _ _ rfl [.slice (some ⟨g, off, none⟩) N cap, .int .i64 n, .int .i64 N] rfl (hdel.out _ (by repeat (first | with_reducible exact Only.refl _ _ | with_reducible apply Only.drew))) ?_; rintro e3 w3 ⟨rfl, hW3, hO3⟩; obtain ⟨⟨d1, d2, d3⟩, hkx⟩ := hC.out _ w3 (by repeat (first | with_reducible exact Only.refl _ _ | with_reducible apply Only.drew)) hW3 hO3; have jD9 := zh hkx; clear hkx hW3 hO3; refine ⟨_, rfl, ?_⟩))
 all_goals
  obtain ⟨m3, k3, e3, f3, g3, hbj⟩ := jD9.out
  obtain ⟨hb, he, hx⟩ := hpre.out
  obtain ⟨W, hW⟩ : ∃ W, W = w3.setCell ⟨m.k, 14, none⟩ (.slice (some ⟨g, off, none⟩) n cap) := ⟨_, rfl⟩
  rw [<- hW] at k3 hbj
  simp only [<- hW]
  clear hW d1 d2 d3 jD9 hdel hC c14 jCn hlt2 jDl hwr hcm hnc
  obtain ⟨ge, zR, jIz, ne, hoe, hve, jGn, hpe, hge, jEa, c17, hc, hf⟩ := k3.1.entry (s := endC s x.p fs n) he
  have q19 : W.cell? ⟨m.k, 19, none⟩ = some (.int .i64 s.now) := e3 ▸ zAA k3.1.root (i := 19) rfl
  rw [e3] at c17 jEa
  have q0 := zAA hbj.1 (i := 0) rfl
  have q1 := zAA hbj.1 (i := 1) rfl
  have qbl := zAG hbj.1
  have qlt : m.k < W.heap.size := e3 ▸ (k3.1.lt 0 m3.k rfl).1
  have hk3 := zh (And.intro k3 (And.intro e3 (And.intro f3 (And.intro g3 (And.intro hbj (And.intro hve (And.intro hc hf)))))))
  clear k3 e3 f3 g3 hbj hb he hx hve hc hf hoe jGn
  unfold ptr at q0
  go_upto_region 3 with fail
  go_quiet (fail)
  obtain ⟨V, hV⟩ : ∃ V, V = W.drewN nq := ⟨_, rfl⟩
  have hVO : Only (fun _ => False) W V := hV ▸ (Only.refl _ W).drewN nq
  obtain ⟨k3, e3, f3, g3, hbj, hve, hc, hf⟩ := hk3.out
  have hgb : ∀ k, b.fp k -> k ≠ ge := fun k hk ee => g3 k hk ⟨14, by
   obtain ⟨g', off', cap', u1, u2, -⟩ := zBG zFH (show Win W 146 13 m3.ve m3.oe s.ents.length (rowC Et.cells s.ents) from k3.1.p 14) (i := x.p) (x := e) hpre.out.2.1
   rw [hve] at u2
   simp only [Value.slice.injEq, Option.some.injEq, Addr.mk.injEq, and_true] at u2
   rw [ee, u2.1.1]
   exact u1⟩
  have hS := zh (fun W' W'' (hP : W'.cell? ⟨m.k, 19, none⟩ = some (.int .i64 s.now) /\ W'.cell? ⟨b.b, 0, none⟩ = some (.pointer (some ⟨b.jb, 0, none⟩)) /\ JbAt W' b.jb b.jo x.j) (ho : Only (fun k => k = ge) W' W'') => show W''.cell? ⟨m.k, 19, none⟩ = some (.int .i64 s.now) /\ W''.cell? ⟨b.b, 0, none⟩ = some (.pointer (some ⟨b.jb, 0, none⟩)) /\ JbAt W'' b.jb b.jo x.j from
   ⟨ho.cell hP.1 (fun e => jEa e.symm), ho.cell hP.2.1 (fun e => hgb _ (.inl rfl) e), hP.2.2.kept ho (fun k hk e => hgb k (.inr hk) e)⟩)
  have hP0 : V.cell? ⟨m.k, 19, none⟩ = some (.int .i64 s.now) /\ V.cell? ⟨b.b, 0, none⟩ = some (.pointer (some ⟨b.jb, 0, none⟩)) /\ JbAt V b.jb b.jo x.j := ⟨hVO.cell q19 id, hVO.cell q0 id, hbj.2.1.new hVO⟩
  have jGo := zh hP0
  have v4 := hVO.cell (hc 4 _ rfl) id
  have v5 := hVO.cell (hc 5 _ rfl) id
  have hfV : ∀ k, V.frozen? ⟨ge, k, none⟩ = false := fun k => by rw [hV]; exact hf k
  have w4 := hfV (zR + x.p * 13 + 4)
  have w5 := hfV (zR + x.p * 13 + 5)
  have vlg := Nat.lt_of_lt_of_le hge hVO.size
  have vlk := Nat.lt_of_lt_of_le qlt hVO.size
  have vlb := Nat.lt_of_lt_of_le qbl hVO.size
  have hV' := zh (And.intro hV hVO)
  rw [<- hV]
  clear hV hVO k3 e3 f3 g3 hbj hve hc hf hgb c17 q19 q0 q1 qbl qlt hfV
  go_upto_region 4 with fail
  go_region_held3 (fun W' => W'.cell? ⟨m.k, 19, none⟩ = some (.int .i64 s.now) /\ W'.cell? ⟨b.b, 0, none⟩ = some (.pointer (some ⟨b.jb, 0, none⟩)) /\ JbAt W' b.jb b.jo x.j)
   (exact hS.out _ _ hP0 (by repeat (first | with_reducible exact Only.refl _ _ | refine Only.setCell (S := fun k => k = ge) ?_ (p := ⟨ge, _, none⟩) (fun _ => (Eq.refl ge : ge = ge)) _ | with_reducible apply Only.drew)))
   (first | (go_at_call 169; (with_reducible refine (zKT (hS.out _ _ hP0 (by repeat (first | with_reducible exact Only.refl _ _ | with_reducible apply Only.drew))).2.2).mono ?_); rintro _ w6 ⟨rfl, rfl⟩))
  all_goals
   obtain ⟨hVe, hVO⟩ := hV'.out
   obtain ⟨k3, e3, f3, g3, hbj, hve, hc, hf⟩ := hk3.out
   obtain ⟨hb, he, hx⟩ := hpre.out
   obtain ⟨U, hU⟩ : ∃ U, U = ((V.setCell ⟨ge, zR + x.p * 13 + 4, none⟩ (.int .i64 s.now)).setCell ⟨ge, zR + x.p * 13 + 5, none⟩ (.bool x.j.fault)).drew := ⟨_, rfl⟩
   have kU : KT w c m U m3 (endD s x.p fs n e x.j.fault) := by
    have k4 := (k3.new hVO).trans ((k3.new hVO).1.entSet (s := endC s x.p fs n) (p := x.p) (x := e) (y := { e with en := s.now }) (j := 4) (u := .int .i64 s.now) he (by decide) rfl hve)
    have hx4 : (s.ents.set x.p { e with en := s.now })[x.p]? = some { e with en := s.now } := List.getElem?_set_self (List.getElem?_eq_some_iff.1 he).1
    have k5 := k4.trans (k4.1.entSet (p := x.p) (x := { e with en := s.now }) (y := { e with en := s.now, fa := x.j.fault }) (j := 5) (u := .bool x.j.fault) hx4 (by decide) rfl hve)
    have k6 := k5.new ((Only.refl (fun _ => False) _).drew)
    rw [hU]
    have hss : (s.ents.set x.p { e with en := s.now }).set x.p { e with en := s.now, fa := x.j.fault } = s.ents.set x.p { e with en := s.now, fa := x.j.fault } := List.set_set _
    unfold endD
    rw [<- hss]
    exact k6
   have hUO : Only (fun k => k = ge) W U := by
    rw [hU]
    exact (((hVO.mono (T := fun k => k = ge) (fun _ _ h => h.elim)).setCell (p := ⟨ge, zR + x.p * 13 + 4, none⟩) (fun _ => (Eq.refl ge : ge = ge)) _).setCell (p := ⟨ge, zR + x.p * 13 + 5, none⟩) (fun _ => (Eq.refl ge : ge = ge)) _).drew
   have hgb : b.b ≠ ge := fun ee => g3 _ (.inl rfl) (by
    obtain ⟨g', off', cap', u1, u2, -⟩ := zBG zFH (show Win W 146 13 m3.ve m3.oe s.ents.length (rowC Et.cells s.ents) from k3.1.p 14) (i := x.p) (x := e) he
    rw [hve] at u2
    simp only [Value.slice.injEq, Option.some.injEq, Addr.mk.injEq, and_true] at u2
    rw [ee, u2.1.1]
    exact ⟨14, u1⟩)
   have hbU := hUO.heap hbj.1 hgb
   have q1 := zAA hbU (i := 1) rfl
   have qbl := zAG hbU
   have z5 : U.cell? ⟨ge, zR + x.p * 13 + 5, none⟩ = some (.bool x.j.fault) := by
    obtain ⟨g', off', cap', n', u1, u2, -, -, -, -, -, uc, -⟩ := kU.1.entry (p := x.p) (x := { e with en := s.now, fa := x.j.fault }) (show (s.ents.set x.p _)[x.p]? = _ from List.getElem?_set_self (List.getElem?_eq_some_iff.1 he).1)
    rw [hve] at u2
    simp only [Value.slice.injEq, Option.some.injEq, Addr.mk.injEq, and_true] at u2
    have := uc 5 _ rfl
    rw [<- u2.1.1, <- u2.1.2] at this
    exact this
   have jI0 := Nat.lt_of_lt_of_le vlg (hU ▸ (show V.heap.size <= _ from by simp [World.setCell, World.drew]) : V.heap.size <= U.heap.size)
   simp only [<- hU]
   have qlU : m.k < U.heap.size := e3 ▸ (kU.1.lt 0 m3.k rfl).1
   have jX := zh (fun W9 (h9 : Only (fun _ => False) U W9) r => zDI (kU.1.new h9) htr (p := x.p) (x := { e with en := s.now, fa := x.j.fault }) (show (s.ents.set x.p _)[x.p]? = _ from List.getElem?_set_self (List.getElem?_eq_some_iff.1 he).1) r)
   have jE := zh (fun W9 w9 (h9 : Only (fun _ => False) U W9) (hF : endF s x.p fs n e x.j.fault = vD (endD s x.p fs n e x.j.fault) e.ta e.jb (if x.j.fault = true then ⟨0, 7, 0, 0, 0, 11, 0⟩ else ⟨0, 6, 0, 0, 0, 0, 0⟩)) (hk : KNow W9 c m3 (vD (endD s x.p fs n e x.j.fault) e.ta e.jb (if x.j.fault = true then ⟨0, 7, 0, 0, 0, 11, 0⟩ else ⟨0, 6, 0, 0, 0, 0, 0⟩)) w9) => show Z w9 from by
    rw [hZ'.out]
    obtain ⟨m9, k9, e9, f9⟩ := hk
    exact ⟨m9, hF ▸ (kU.new h9).trans k9, e9.trans e3, f9.trans f3⟩)
   unfold ptr Rc.val KEnd at jX
   rw [e3] at jX
   clear hUO hgb hbU kU hU k3 e3 f3 g3 hbj hve hc hf hb he hx hVe hVO hP0 hS jGo v4 v5 w4 w5 vlg vlk vlb hV' hk3
   obtain ⟨FA, hFA⟩ : ∃ FA, FA = x.j.fault := ⟨_, rfl⟩
   rw [<- hFA] at z5 jE jX
   have jI1 := zh hFA
   clear hFA
   cases FA
   ·skip
    have htl := zh (fun W9 h9 => jX.out W9 h9 ⟨0, 6, 0, 0, 0, 0, 0⟩)
    clear jX
    go_upto_region 8 with fail
    obtain ⟨X, hX⟩ : ∃ X, X = U.heap.size := ⟨_, rfl⟩
    obtain ⟨U2, hU2⟩ : ∃ U2, U2 = U.alloc (.cells #[.int .i64 0, .int .i64 6, .int .i64 0, .int .i64 0, .int .i64 0, .int .i64 0, .int .i64 0] 60) := ⟨_, rfl⟩
    have hXr : U2.heap[X]? = some (.cells [Value.int .i64 0, .int .i64 6, .int .i64 0, .int .i64 0, .int .i64 0, .int .i64 0, .int .i64 0].toArray 60 (0, 0)) := by rw [hU2]; exact zAB _ _ hX.symm
    have hO2 : Only (fun _ => False) U U2 := by rw [hU2]; exact (Only.refl _ U).alloc _
    rw [<- hU2, <- hX]
    have x0 := zAA hXr (i := 0) rfl
    have x1 := zAA hXr (i := 1) rfl
    have x2 := zAA hXr (i := 2) rfl
    have x3 := zAA hXr (i := 3) rfl
    have x4 := zAA hXr (i := 4) rfl
    have x5 := zAA hXr (i := 5) rfl
    have x6 := zAA hXr (i := 6) rfl
    have xl := zAG hXr
    have q1' := hO2.cell q1 id
    have jGp := Nat.lt_of_lt_of_le qbl hO2.size
    have kC := zh hO2
    clear hU2 hX hXr hO2 q1 qbl z5
    refine zAD 6 (by kernel_rfl) (by kernel_rfl) ?_
    simp only [List.take_succ_cons, List.take_zero, List.drop_succ_cons, List.drop_zero]
    repeat (go_big_quiet_step (fail))
    refine wpQuiet_nil ?_
    rintro _ ⟨nq9, rfl⟩
    go_wp2_with fail
    refine (htl.out _ (kC.out.drewN nq9)).mono ?_
    rintro e9 w9 ⟨rfl, hk9⟩
    have hz := jE.out _ w9 (kC.out.drewN nq9) rfl hk9
    go_wp2
    go_end0
    exact ⟨rfl, hz⟩
   ·skip
    have htl := zh (fun W9 h9 => jX.out W9 h9 ⟨0, 7, 0, 0, 0, 11, 0⟩)
    clear jX
    go_upto_region 8 with fail
    obtain ⟨X, hX⟩ : ∃ X, X = U.heap.size := ⟨_, rfl⟩
    obtain ⟨U2, hU2⟩ : ∃ U2, U2 = U.alloc (.cells #[.int .i64 0, .int .i64 7, .int .i64 0, .int .i64 0, .int .i64 0, .int .i64 11, .int .i64 0] 60) := ⟨_, rfl⟩
    have hXr : U2.heap[X]? = some (.cells [Value.int .i64 0, .int .i64 7, .int .i64 0, .int .i64 0, .int .i64 0, .int .i64 11, .int .i64 0].toArray 60 (0, 0)) := by rw [hU2]; exact zAB _ _ hX.symm
    have hO2 : Only (fun _ => False) U U2 := by rw [hU2]; exact (Only.refl _ U).alloc _
    rw [<- hU2, <- hX]
    have x0 := zAA hXr (i := 0) rfl
    have x1 := zAA hXr (i := 1) rfl
    have x2 := zAA hXr (i := 2) rfl
    have x3 := zAA hXr (i := 3) rfl
    have x4 := zAA hXr (i := 4) rfl
    have x5 := zAA hXr (i := 5) rfl
    have x6 := zAA hXr (i := 6) rfl
    have xl := zAG hXr
    have q1' := hO2.cell q1 id
    have jGp := Nat.lt_of_lt_of_le qbl hO2.size
    have kC := zh hO2
    clear hU2 hX hXr hO2 q1 qbl z5
    refine zAD 6 (by kernel_rfl) (by kernel_rfl) ?_
    simp only [List.take_succ_cons, List.take_zero, List.drop_succ_cons, List.drop_zero]
    repeat (go_big_quiet_step (fail))
    refine wpQuiet_nil ?_
    rintro _ ⟨nq9, rfl⟩
    go_wp2_with fail
    refine (htl.out _ (kC.out.drewN nq9)).mono ?_
    rintro e9 w9 ⟨rfl, hk9⟩
    have hz := jE.out _ w9 (kC.out.drewN nq9) rfl hk9
    go_wp2
    go_end0
    exact ⟨rfl, hz⟩
end
theorem zI3 {l : List Pil.En} {k k' : Nat} {x x' : Pil.En} (h : Pil.IsFirst l k x) (h' : Pil.IsFirst l k' x') : k = k' /\ x = x' := by
 have e : k = k' := by
  have h1 := (h.2 k' x' h'.1)
  have h2 := (h'.2 k x h.1)
  rcases Nat.lt_trichotomy k k' with hk | hk | hk
  ·have := h2.2 hk; omega
  ·exact hk
  ·have := h1.2 hk; omega
 subst e
 have := h.1
 rw [h'.1] at this
 exact ⟨rfl, (Option.some.inj this).symm⟩
theorem zHV {a : Int} : ∀ {out jBr : List Pil.Ev} {rs rs1 rs2 : List Pil.En}, Pil.Takes a rs out rs1 -> (∀ k x, Pil.IsFirst rs1 k x -> a < x.e.t) -> Pil.Takes a rs jBr rs2 -> (∀ k x, Pil.IsFirst rs2 k x -> a < x.e.t) -> out = jBr /\ rs1 = rs2
 | [], [], _, _, _, h1, _, h2, _ => ⟨rfl, (show _ = _ from h1).symm.trans h2⟩
 | [], e :: jBr, rs, rs1, rs2, h1, s1, h2, _ => by
  obtain rfl : rs = rs1 := h1
  obtain ⟨k, x, g1, g2, g3, g4⟩ := h2
  have := s1 k x g1
  omega
 | e :: out, [], rs, rs1, rs2, h1, _, h2, s2 => by
  obtain rfl : rs = rs2 := h2
  obtain ⟨k, x, g1, g2, g3, g4⟩ := h1
  have := s2 k x g1
  omega
 | e :: out, e2 :: jBr, rs, rs1, rs2, h1, s1, h2, s2 => by
  obtain ⟨k, x, g1, g2, g3, g4⟩ := h1
  obtain ⟨k', x', g1', g2', g3', g4'⟩ := h2
  obtain ⟨rfl, rfl⟩ := zI3 g1 g1'
  obtain ⟨r1, r2⟩ := zHV g4 s1 g4' s2
  exact ⟨by rw [r1, <- g2, <- g2'], r2⟩
theorem zM2 {j : Jz} (h : j.Ok) (z : Int) : (burnF j z).Ok := by
 have hg : 0 <= goneF j z /\ goneF j z <= j.rest := by
  unfold goneF
  have := h.r
  omega
 unfold burnF
 split
 ·exact h
 ·rename_i h0
  have hr := h.r
  have hl := h.l
  have hn := h.n
  have hu := h.u (by omega)
  refine ⟨by dsimp only; omega, by dsimp only; split <;> omega, ⟨hn.1, by dsimp only; split <;> omega⟩, fun hp => ?_⟩
  dsimp only at hp ⊢
  rw [if_neg (by omega)]
  exact hu
def KGo (w : World) (c : KC) (m : KM) (S : KS) (W : World) : Prop := ∃ m', KT w c m W m' S /\ m'.k = m.k
def meets (c : KC) (s : KS) (rs : List Pil.En) (out : List Pil.Ev) (i : Nat) : KS := (out.take i).foldl (meetF c) { s with ag := rs }
theorem zFL (c : KC) (s : KS) (rs : List Pil.En) {out : List Pil.Ev} {i : Nat} {x : Pil.Ev} (h : out[i]? = some x) : meets c s rs out (i + 1) = meetF c (meets c s rs out i) x := by
 unfold meets
 rw [List.take_add_one, List.foldl_append, h]
 rfl
def kT (s : KS) (z : Int) : KS := { s with now := s.now + z }
def spanZ (x : Bj) (wh : Bool) (sp : Int) : Int := if wh = true then min (min sp x.j.rest) x.j.left else min sp x.j.rest
def jR (e : Et) (wh : Bool) (z : Int) : Et := if wh = true then { e with wi := e.wi + z } else e
def jQ (s : KS) (p : Nat) (e : Et) (wh : Bool) (z : Int) : KS := if wh = true then { s with ents := s.ents.set p (jR e wh z) } else s
def vJ (s : KS) (i : Nat) (x : Bj) (z : Int) : KS := { s with jobs := s.jobs.set i { x with j := burnF x.j z } }
section
variable {w w' : World} {c : KC} {m : KM} {s : KS}
theorem KGo.nowr {S : KS} (h : KGo w c m S w') (z : Int) : KGo w c m (kT S z) (w'.setCell ⟨m.k, 19, none⟩ (.int .i64 (S.now + z))) := by
 obtain ⟨m1, k1, e1⟩ := h
 rw [<- e1]
 exact ⟨m1, k1.trans (k1.1.nowr _), e1⟩
def Jt (w : World) (c : KC) (m : KM) (y0 : Stp) (i : Nat) (S : KS) (y : Stp) (W : World) : Prop :=
 ∃ m1 B, KT w c m W m1 S /\ m1.k = m.k /\ m1.js[i]? = some B /\ y = { y0 with b := B.b, jb := B.jb }
theorem KAt.topV {i : Nat} {B : Bm} (h : KAt w c m s) (hn : s.jobs.length = i + 1) (hB : m.js[i]? = some B) : topV m.js = ptr B.b := by
 unfold Krn.topV
 rw [List.getLast?_eq_getElem?, h.jlen, hn, Nat.add_sub_cancel, hB]
set_option maxHeartbeats 1000000 in
theorem zPH (h : KAt w c m s) {out : List Pil.Ev} {rs : List Pil.En} (hT : Pil.Takes s.now s.ag out rs) (hS : ∀ k x, Pil.IsFirst rs k x -> s.now < x.e.t) (hag : s.ag.length <= 900)
  (hev : ∀ i x, out[i]? = some x -> EvOk c (meets c s rs out i) x /\ (meets c s rs out i).tn <= 1000000 /\ (meets c s rs out i).ag.length <= 900)
  {S2 : KS} {wh : Bool} (hch : ∀ W m1, KAt W c m1 (meets c s rs out out.length) -> Calls Tryz.prog 102 #[ptr m1.k] W (fun e w' => e = .returned (.bool wh) /\ KGo W c m1 S2 w'))
  {till : Int} (hnow : 0 <= S2.now /\ S2.now <= 1000000000) (jA0 : 0 <= till /\ till <= 1000000000) (jCy : ∀ x ∈ S2.ag, 0 <= x.e.t /\ x.e.t <= 1000000000)
  {S' : KS}
  (hz : S2.jobs = [] -> S' = kT S2 (quietZ S2 till))
  (jGq : ∀ i x, S2.jobs.length = i + 1 -> S2.jobs[i]? = some x -> ∃ S3 x3 e3,
   (∀ W m1 B, KAt W c m1 S2 -> m1.js[i]? = some B -> Calls Tryz.prog 104 #[ptr m1.k, ptr B.b] W (KEnd W c m1 S3 (.tuple #[]))) /\
   S3.jobs.length = i + 1 /\ S3.jobs[i]? = some x3 /\ S3.ents[x3.p]? = some e3 /\ (-1000000000000 <= e3.wi /\ e3.wi <= 1000000000000) /\ S3.now = S2.now /\
   (overB (burnF x3.j (spanZ x3 wh (quietZ S2 till))) = false -> S' = kT (vJ (jQ S3 x3.p e3 wh (spanZ x3 wh (quietZ S2 till))) i x3 (spanZ x3 wh (quietZ S2 till))) (spanZ x3 wh (quietZ S2 till))) /\
   (overB (burnF x3.j (spanZ x3 wh (quietZ S2 till))) = true -> ∃ (fs : List Fr) (fr : Fr), S3.fs = fs ++ [fr] /\ fr.who = (x3.p : Int) /\ fs.length <= 1000 /\ c.nl <= 4096 /\ i <= 1000 /\ S3.tr.length <= 1000000000 /\
    S' = endF (kT (vJ (jQ S3 x3.p e3 wh (spanZ x3 wh (quietZ S2 till))) i x3 (spanZ x3 wh (quietZ S2 till))) (spanZ x3 wh (quietZ S2 till))) x3.p fs i (jR e3 wh (spanZ x3 wh (quietZ S2 till))) (burnF x3.j (spanZ x3 wh (quietZ S2 till))).fault)) :
  Calls Tryz.prog 54 #[ptr m.k, .int .i64 till] w (ResV (KGo w c m S')) := by
 have hq : -1000000000000 <= quietZ S2 till /\ quietZ S2 till <= 1000000000000 := by
  unfold quietZ
  split
  ·omega
  ·rename_i hne
   obtain ⟨x, hx, e⟩ := zCQ hne
   have := jCy x hx
   omega
 obtain ⟨A, hAd⟩ : ∃ A : List Pil.Ev -> Value -> Nat -> World -> Prop, ∀ o v i W, A o v i W ↔ (o = out /\ ∃ m1 g, KT w c m W m1 (meets c s rs out i) /\ m1.k = m.k /\ Win W 40 5 v g out.length (rowC Pil.Ev.cells out) /\ ∀ x, g = some x -> x < W.heap.size /\ ¬ kfp c m1 x) := ⟨_, fun _ _ _ _ => Iff.rfl⟩
 have hol : out.length <= 900 := by have := hT.len; omega
 have vG : ∀ W, Only (fun _ => False) w W -> Calls Tryz.prog 100 #[ptr m.b6, .int .i64 s.now] W (fun e w' => ∃ o p cap, e = .returned (.slice p o.length cap) /\ A o (.slice p o.length cap) 0 w' /\ w'.cell? ⟨m.k, 11, none⟩ = some (ptr m.b6) /\ w'.cell? ⟨m.k, 19, none⟩ = some (.int .i64 s.now)) := fun W hO => by
  have hW := h.new hO
  refine (Pil.take_any (show Pil.Ag W m.b6 m.o6 s.tn s.ag from hW.p 8) hag s.now).mono ?_
  rintro e w1 ⟨o, rs2, p, cap, g, rfl, hT2, hS2, hw, hg, hAg, hO1⟩
  obtain ⟨rfl, rfl⟩ := zHV hT hS hT2 hS2
  have k1 := hW.agd_ hAg hO1 (fun k hk => .inl hk)
  have kk := (h.ktNew hO).trans k1
  refine ⟨out, p, cap, rfl, (hAd _ _ _ _).2 ⟨rfl, m, g, kk, rfl, hw, fun x hx => ⟨hw.lt x hx, fun hk => ?_⟩⟩, zAA kk.1.root (i := 11) rfl, zAA kk.1.root (i := 19) rfl⟩
  have := hg x hx
  have := hW.klt x hk
  omega
 have hA : ∀ o v i W, A o v i W -> o.length <= 900 /\ m.k < W.heap.size /\ ∃ g, Win W 40 5 v g o.length (rowC Pil.Ev.cells o) := fun o v i W hA => by
  obtain ⟨rfl, m1, g, k1, e1, hw, hg⟩ := (hAd _ _ _ _).1 hA
  exact ⟨hol, e1 ▸ (k1.1.lt 0 m1.k rfl).1, g, hw⟩
 have xC : ∀ o v i x W W', o[i]? = some x -> A o v i W -> Only (fun _ => False) W W' -> Calls Tryz.prog 101 #[ptr m.k, x.val] W' (fun e w' => e = .returned (.tuple #[]) /\ A o v (i + 1) w') := fun o v i x W W' hx hA hO => by
  obtain ⟨rfl, m1, g, k1, e1, hw, hg⟩ := (hAd _ _ _ _).1 hA
  obtain ⟨g1, g2, g3⟩ := hev i x hx
  have k2 := k1.new hO
  rw [<- e1]
  refine (zPG k2.1 g1 g2 g3).mono ?_
  rintro e w9 ⟨he, m9, k9, e9, f9⟩
  refine ⟨he, (hAd _ _ _ _).2 ⟨rfl, m9, g, ?_, e9.trans e1, ?_, ?_⟩⟩
  ·rw [zFL c s rs hx]; exact k2.trans k9
  ·exact (hw.kept hO (fun _ _ h => h)).kept k9.2.1 (fun x hx hk => (hg x hx).2 hk)
  ·intro x hx
   obtain ⟨q1, q2⟩ := hg x hx
   have hs2 := Nat.lt_of_lt_of_le q1 hO.size
   exact ⟨Nat.lt_of_lt_of_le hs2 k9.2.1.size, k9.not hs2 q2⟩
 have jAy : ∀ o v W, A o v o.length W -> Calls Tryz.prog 102 #[ptr m.k] W (fun e w' => e = .returned (.bool wh) /\ KGo w c m S2 w') := fun o v W hA => by
  obtain ⟨rfl, m1, g, k1, e1, hw, hg⟩ := (hAd _ _ _ _).1 hA
  have := hch W m1 k1.1
  rw [e1] at this
  refine this.mono ?_
  rintro e w9 ⟨he, m9, k9, e9⟩
  exact ⟨he, m9, k1.trans k9, e9.trans e1⟩
 have c11 := zAA h.root (i := 11) rfl
 have c19 := zAA h.root (i := 19) rfl
 by_cases hj0 : S2.jobs = []
 ·refine zHU (A := A) (N := fun sp now W => sp = quietZ S2 till /\ now = S2.now /\ KGo w c m S2 W) (B := fun _ _ => False) (C := fun _ _ => False) (D := fun _ _ => False) (E := fun _ _ => False) (F := fun _ _ => False) (G := fun _ _ => False) (h.lt 0 m.k rfl).1 c11 c19 vG hA xC
   (fun o v W hA => (jAy o v W hA).mono fun e w9 ⟨he, hk⟩ => .inl ⟨wh, _, _, he, rfl, rfl, hk⟩) ?_ (fun _ _ h => h.elim) (fun _ _ h => h.elim) (fun _ _ h => h.elim) (fun _ _ h => h.elim) (fun _ _ h => h.elim) (fun _ _ h => h.elim) (fun _ _ h => h.elim) (fun _ _ h => h.elim)
  rintro sp now W ⟨rfl, rfl, m1, k1, e1⟩
  rw [<- e1]
  refine ⟨zHS k1.1 till hnow jA0 jCy, (zB5 k1.1).mono ?_⟩
  rintro e w9 ⟨he, n, rfl⟩
  have hjs : m1.js = [] := List.eq_nil_of_length_eq_zero (by rw [k1.1.jlen, hj0]; rfl)
  have k2 := k1.new ((Only.refl (fun _ => False) W).drewN n)
  refine ⟨by rw [he, hjs]; rfl, (k2.1.lt 0 m1.k rfl).1, zAA k2.1.root (i := 19) rfl, zAC k2.1.root 19, IntWalk.i64_in _ (by omega), ?_⟩
  rw [hz hj0]
  have := KGo.nowr (m := m) ⟨m1, k2, e1⟩ (quietZ S2 till)
  rw [e1]
  exact this
 ·obtain ⟨i, hi⟩ : ∃ i, S2.jobs.length = i + 1 := ⟨S2.jobs.length - 1, (Nat.sub_add_cancel (List.length_pos_iff.2 hj0)).symm⟩
  obtain ⟨x, hx⟩ : ∃ x, S2.jobs[i]? = some x := ⟨_, List.getElem?_eq_getElem (by omega)⟩
  obtain ⟨S3, x3, e3, jBo, hi3, hx3, he3, hwi, hn3, hno, hov⟩ := jGq i x hi hx
  obtain ⟨z, hzz⟩ : ∃ z, z = spanZ x3 wh (quietZ S2 till) := ⟨_, rfl⟩
  rw [<- hzz] at hno hov
  have hy0 : ∃ y0 : Stp, y0.sp = quietZ S2 till /\ y0.wh = wh /\ y0.p = x3.p /\ y0.r = x3.j.rest /\ y0.left = x3.j.left /\ y0.now = S2.now /\ y0.wi = e3.wi /\ y0.ar = x3.j.armed /\ y0.ov = overB (burnF x3.j z) := ⟨⟨_, _, 0, 0, _, _, _, _, _, _, _⟩, rfl, rfl, rfl, rfl, rfl, rfl, rfl, rfl, rfl⟩
  obtain ⟨y0, y1, y2, y3, y4, y5, y6, y7, y8, y9⟩ := hy0
  have hs3 : ∀ b jb, ({ y0 with b := b, jb := jb } : Stp).s3 = z := fun b jb => by
   rw [hzz]
   unfold Stp.s3 Stp.s2 spanZ
   rw [y1, y2, y4, y5]
  obtain ⟨S4, h4⟩ : ∃ S4, S4 = jQ S3 x3.p e3 wh z := ⟨_, rfl⟩
  obtain ⟨S5, h5⟩ : ∃ S5, S5 = vJ S4 i x3 z := ⟨_, rfl⟩
  obtain ⟨S6, h6⟩ : ∃ S6, S6 = kT S5 z := ⟨_, rfl⟩
  rw [<- h4, <- h5, <- h6] at hno hov
  have hx4 : S4.jobs[i]? = some x3 := by rw [h4]; unfold jQ; split <;> exact hx3
  have hl4 : S4.jobs.length = i + 1 := by rw [h4]; unfold jQ; split <;> exact hi3
  have hx5 : S5.jobs[i]? = some { x3 with j := burnF x3.j z } := by rw [h5]; exact List.getElem?_set_self (by omega)
  have hl5 : S5.jobs.length = i + 1 := by rw [h5]; show (S4.jobs.set i _).length = _; rw [List.length_set]; exact hl4
  have hn5 : S5.now = S2.now := by rw [h5, <- hn3]; show S4.now = _; rw [h4]; unfold jQ; split <;> rfl
  have he6 : S6.ents[x3.p]? = some (jR e3 wh z) := by
   rw [h6, h5]
   show S4.ents[x3.p]? = _
   rw [h4]
   unfold jQ jR
   have hl := (List.getElem?_eq_some_iff.1 he3).1
   cases wh with
   | false => exact he3
   | true => exact List.getElem?_set_self hl
  refine zHU (A := A) (N := fun _ _ _ => False) (B := Jt w c m y0 i S2) (C := Jt w c m y0 i S2) (D := Jt w c m y0 i S3) (E := Jt w c m y0 i S4) (F := Jt w c m y0 i S5) (G := Jt w c m y0 i S6) (h.lt 0 m.k rfl).1 c11 c19 vG hA xC
   ?ch (fun _ _ _ h => h.elim) ?B ?C ?D ?D1 ?D2 ?E ?F ?G
  case ch =>
   refine fun o v W hA => (jAy o v W hA).mono ?_
   rintro e w9 ⟨he, m1, k1, e1⟩
   obtain ⟨B, hB⟩ : ∃ B, m1.js[i]? = some B := ⟨_, List.getElem?_eq_getElem (by rw [k1.1.jlen, hi]; exact Nat.lt_succ_self i)⟩
   exact .inr ⟨{ y0 with b := B.b, jb := B.jb }, by rw [he]; show _ = Ending.returned (.bool y0.wh); rw [y2], m1, B, k1, e1, hB, rfl⟩
  case B =>
   rintro y W ⟨m1, B, k1, e1, hB, hy⟩
   have p1 : y.sp = quietZ S2 till := by rw [hy]; exact y1
   have p6 : y.now = S2.now := by rw [hy]; exact y6
   have p7 : y.wi = e3.wi := by rw [hy]; exact y7
   have pb : y.b = B.b := by rw [hy]
   refine ⟨⟨by rw [p1]; exact hq, by rw [p6]; omega, by rw [p7]; exact hwi⟩, ?_, ?_⟩
   ·rw [<- e1, p1]
    exact zHS k1.1 till hnow jA0 jCy
   ·rw [<- e1]
    refine (zB5 k1.1).mono ?_
    rintro e w9 ⟨he, n, rfl⟩
    exact ⟨by rw [he, k1.1.topV hi hB, pb], m1, B, k1.new ((Only.refl (fun _ => False) W).drewN n), e1, hB, hy⟩
  case C =>
   rintro y W ⟨m1, B, k1, e1, hB, rfl⟩
   rw [<- e1]
   refine (jBo W m1 B k1.1 hB).mono ?_
   rintro e w9 ⟨he, m9, k9, e9, f9⟩
   exact ⟨he, m9, B, k1.trans k9, e9.trans e1, by rw [f9]; exact hB, rfl⟩
  case D =>
   rintro y W ⟨m1, B, k1, e1, hB, hy⟩
   obtain ⟨hb, hJ, hOk⟩ := k1.1.begun hB hx3
   have p4 : y.r = x3.j.rest := by rw [hy]; exact y4
   have p5 : y.left = x3.j.left := by rw [hy]; exact y5
   have p8 : y.ar = x3.j.armed := by rw [hy]; exact y8
   have pb : y.b = B.b := by rw [hy]
   have pj : y.jb = B.jb := by rw [hy]
   rw [p4, p5, p8, pb, pj, <- e1]
   exact ⟨(k1.1.lt 0 m1.k rfl).1, zAG hb, zAA hb (i := 0) rfl, zHK hJ, zMA hJ, hOk.r.1, hOk.l.1⟩
  case D1 =>
   rintro y W ⟨m1, B, k1, e1, hB, rfl⟩ hw
   have hw' : wh = false := y2.symm.trans hw
   refine ⟨m1, B, ?_, e1, hB, rfl⟩
   rw [h4, hw']
   exact k1
  case D2 =>
   rintro y W ⟨m1, B, k1, e1, hB, hy⟩ hw
   have hw' : wh = true := by rw [<- hw, hy]; exact y2.symm
   obtain ⟨g, off, cap, n, g1, g2, g3, g4, g5, g6, g7, g8, g9⟩ := k1.1.entry he3
   obtain ⟨hb, hJ, hOk⟩ := k1.1.begun hB hx3
   have p3 : y.p = x3.p := by rw [hy]; exact y3
   have p7 : y.wi = e3.wi := by rw [hy]; exact y7
   have pz : y.s3 = z := by rw [hy]; exact hs3 _ _
   have pb : y.b = B.b := by rw [hy]
   rw [p3, p7, pz, pb, <- e1]
   refine ⟨g, off, n, cap, g4, g5, g7, zAA hb (i := 1) rfl, g8 9 _ rfl, g9 _, fun W' hO => ⟨m1, B, ?_, e1, hB, hy⟩⟩
   rw [h4, hw']
   have k2 := k1.new hO
   exact k2.trans (k2.1.entSet (j := 9) (y := { e3 with wi := e3.wi + z }) (u := .int .i64 (e3.wi + z)) he3 (by decide) rfl g2)
  case E =>
   rintro y W ⟨m1, B, k1, e1, hB, rfl⟩
   obtain ⟨hb, hJ, hOk⟩ := k1.1.begun hB hx4
   rw [hs3]
   refine ⟨zAG hb, zAA hb (i := 0) rfl, (zMC hJ hOk z).mono ?_⟩
   rintro e w9 ⟨he, hJ9, hO9⟩
   refine ⟨⟨_, he⟩, m1, B, ?_, e1, hB, rfl⟩
   rw [h5]
   exact k1.trans (k1.1.bjJob hB hx4 hJ9 (zM2 hOk z) hO9)
  case F =>
   rintro y W ⟨m1, B, k1, e1, hB, hy⟩
   have p6 : y.now = S5.now := by rw [hy, hn5]; exact y6
   have pz : y.s3 = z := by rw [hy]; exact hs3 _ _
   rw [pz, p6, <- e1]
   refine ⟨(k1.1.lt 0 m1.k rfl).1, zAA k1.1.root (i := 19) rfl, zAC k1.1.root 19, ⟨m1, B, ?_, e1, hB, hy⟩⟩
   rw [h6]
   exact k1.trans (k1.1.nowr _)
  case G =>
   rintro y W ⟨m1, B, k1, e1, hB, rfl⟩
   have hx6 : S6.jobs[i]? = some { x3 with j := burnF x3.j z } := by rw [h6]; exact hx5
   have hl6 : S6.jobs.length = i + 1 := by rw [h6]; exact hl5
   obtain ⟨hb, hJ, hOk⟩ := k1.1.begun hB hx6
   rw [show ({ y0 with b := B.b, jb := B.jb } : Stp).ov = _ from y9, <- e1]
   refine ⟨zAG hb, zAA hb (i := 0) rfl, zCH hJ, fun ho q => ?_, fun ho q => ?_⟩
   ·rw [hno ho]
    exact ⟨m1, k1.new ((Only.refl (fun _ => False) W).drewN q), e1⟩
   ·obtain ⟨fs, fr, q1, q2, q3, q4, q5, q6, q7⟩ := hov ho
    have hfs : S6.fs = fs ++ [fr] := by rw [h6, h5, <- q1]; show S4.fs = _; rw [h4]; unfold jQ; split <;> rfl
    have htr : S6.tr.length <= 1000000000 := by rw [h6, h5]; show S4.tr.length <= _; rw [h4]; unfold jQ; split <;> exact q6
    have k2 := k1.new ((Only.refl (fun _ => False) W).drewN q)
    refine (zRY k2.1 hl6 hB hx6 he6 hfs q2 q3 q4 q5 htr).mono ?_
    rintro e w9 ⟨he, m9, k9, e9, -⟩
    rw [q7]
    exact ⟨he, m9, k2.trans k9, e9.trans e1⟩
end
