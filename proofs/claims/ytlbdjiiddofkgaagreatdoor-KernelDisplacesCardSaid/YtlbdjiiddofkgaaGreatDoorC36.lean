import Derived.Test.YtlbdjiiddofkgaaGreatDoorC34
import Derived.Test.YtlbdjiiddofkgaaGreatDoorC35
set_option maxRecDepth 100000
namespace Go.Proofs.YtlbdjiiddofkgaaGreatDoor
namespace Krn
open Go Go.RowKit Go.Maps Ring Band
section
variable {w w' : World} {c : KC} {m : KM} {s : KS}
def kB (s : KS) : Option (Nat × Bj × Et) -> KS
 | none => s
 | some (i, x, e) => vD { s with jobs := s.jobs.set i { x with cov := true }, ents := s.ents.set x.p { e with di := e.di + 1 } } e.ta e.jb ⟨0, 4, 0, 0, 0, 0, 0⟩
theorem zEX (u : Option (Nat × Bj × Et)) : (kB s u).q = s.q /\ (kB s u).ps = s.ps /\ (kB s u).nx = s.nx /\ (kB s u).now = s.now /\ (kB s u).fs = s.fs /\ (kB s u).pk = s.pk /\ (kB s u).cg = s.cg /\ (kB s u).ents.length = s.ents.length := by
 cases u with
 | none => exact ⟨rfl, rfl, rfl, rfl, rfl, rfl, rfl, rfl⟩
 | some y =>
  obtain ⟨i, x, e⟩ := y
  exact ⟨rfl, rfl, rfl, rfl, rfl, rfl, rfl, List.length_set⟩
theorem Rel0.new {s1 : KS} {x : Jb} {Y : Nat} {W W' : World} (h : Rel0 w c m s1 x Y W) (hO : Only (fun _ => False) W W') : Rel0 w c m s1 x Y W' := by
 obtain ⟨⟨m1, k1, e1, f1, n1⟩, hy⟩ := h
 exact ⟨⟨m1, k1.new hO, e1, f1, n1⟩, hO.heap hy id⟩
def takS (s : KS) (t : Nat) (l : List (Jb × Nat)) : KS := { s with q := upd s.q t l }
def drpS (s : KS) (x : Jb) : KS := { s with ps := s.ps.filter fun q => decide (q.1 ≠ x) }
structure St7 (w : World) (c : KC) (m : KM) (s1 : KS) (g off cap n T : Nat) (tv : jA) (W : World) : Prop where
 k : ∃ m1, KT w c m W m1 s1 /\ m1.k = m.k /\ m1.js = m.js /\ m1.oe = some g /\ m1.ve = .slice (some ⟨g, off, none⟩) n cap /\ ¬ kfp c m1 T
 y : W.heap[T]? = some (.cells tv.cells.toArray 63 (0, 0))
theorem St7.new {s1 : KS} {g off cap n T : Nat} {tv : jA} {W W' : World} (h : St7 w c m s1 g off cap n T tv W) (hO : Only (fun _ => False) W W') : St7 w c m s1 g off cap n T tv W' := by
 obtain ⟨⟨m1, k1, e1, f1, a1, b1, n1⟩, hy⟩ := h
 exact ⟨⟨m1, k1.new hO, e1, f1, a1, b1, n1⟩, hO.heap hy id⟩
theorem St7.set {s1 : KS} {g off cap n T p : Nat} {tv : jA} {W : World} (h : St7 w c m s1 g off cap n T tv W) {x y : Et} {j : Nat} {u : Value} (hx : s1.ents[p]? = some x) (hj : j < 13) (hy : y.cells = x.cells.set j u) :
  St7 w c m { s1 with ents := s1.ents.set p y } g off cap n T tv (W.setCell ⟨g, off + p * 13 + j, none⟩ u) := by
 obtain ⟨⟨m1, k1, e1, f1, a1, b1, n1⟩, hT⟩ := h
 exact ⟨⟨m1, k1.trans (k1.1.entSet hx hj hy b1), e1, f1, a1, b1, n1⟩, zAH hT (fun e => n1 ⟨14, by show m1.oe = some T; rw [a1]; exact congrArg some e.symm⟩) _⟩
theorem St7.cells {s1 : KS} {g off cap n T p : Nat} {tv : jA} {W : World} (h : St7 w c m s1 g off cap n T tv W) {x : Et} (hx : s1.ents[p]? = some x) :
  g < W.heap.size /\ (∀ j u, x.cells[j]? = some u -> W.cell? ⟨g, off + p * 13 + j, none⟩ = some u) /\ (∀ k, W.frozen? ⟨g, k, none⟩ = false) /\ W.heap[m.k]? = some (.cells (rootL c { h.k.choose with k := m.k } s1).toArray 123 (0, 0)) /\ g ≠ m.k := by
 have hc := h.k.choose_spec
 obtain ⟨k1, e1, f1, a1, b1, n1⟩ := hc
 obtain ⟨g', off', cap', n', h1, h2, -, -, h5, h6, -, h8, h9⟩ := k1.1.entry hx
 rw [a1] at h1
 rw [b1] at h2
 cases h1
 cases h2
 refine ⟨h5, h8, h9, ?_, fun e => h6 (e.trans e1.symm)⟩
 have := k1.1.root
 rw [e1] at this
 exact this
structure St8 (w : World) (c : KC) (m : KM) (s1 : KS) (g off cap n : Nat) (W : World) : Prop where
 k : ∃ m1 B, KT w c m W m1 s1 /\ m1.k = m.k /\ m1.js = m.js ++ [B] /\ m1.oe = some g /\ m1.ve = .slice (some ⟨g, off, none⟩) n cap
theorem zRV : (Tryz.prog.info? 141).map (fun i => (i.zero, i.size, i.bytes)) = some (some (Value.pointer none), 1, 8) := by kernel_rfl
theorem zPC {w : World} {X : Nat} {a : Value} {e : TypeId} (h : w.heap[X]? = some (.cells #[a] e (0, 0))) : ∀ j u, [a][j]? = some u -> w.cell? ((⟨X, 0, none⟩ : Addr).add j) = some u := fun j u hu => by
 rw [Addr.add_lit, Nat.zero_add]
 exact zAA (L := [a]) h hu
def UnderOk (m : KM) (s : KS) (v : Value) : Option (Nat × Bj × Et) -> Prop
 | none => v = .pointer none
 | some (i, x, e) => ∃ b, v = ptr b /\ ∃ B : Bm, B.b = b /\ m.js[i]? = some B /\ s.jobs[i]? = some x /\ s.ents[x.p]? = some e /\ 0 <= e.di /\ e.di <= 1000000000000
theorem zMU (u : Option (Nat × Bj × Et)) : (kB s u).jobs.length = s.jobs.length := by
 cases u with
 | none => rfl
 | some y =>
  obtain ⟨i, x, e⟩ := y
  exact List.length_set
theorem zRW (u : Option (Nat × Bj × Et)) : (kB s u).tr.length <= s.tr.length + 1 := by
 cases u with
 | none => exact Nat.le_succ _
 | some y =>
  obtain ⟨i, x, e⟩ := y
  simp [kB, vD]
def startF (c : KC) (S : KS) (t p : Nat) (x : Jb) (l : List (Jb × Nat)) (tv : jA) (ops : List Opn) (e0 : Et) : KS :=
 vD { S with q := upd S.q t l, ps := S.ps.filter fun q => decide (q.1 ≠ x), pk := max S.pk (deep S.fs + tv.fr), fs := S.fs ++ [⟨(p : Int), deep S.fs, tv.fr⟩], ents := S.ents.set p { e0 with st := S.now, ba := deep S.fs, am := (alF c.s c.w c.h c.mi S.cg ops).1, ac := (alF c.s c.w c.h c.mi S.cg ops).2.1 }, jobs := S.jobs ++ [⟨newJ tv ops, p, false⟩] } e0.ta e0.jb ⟨0, 3, 0, 0, 0, 0, deep S.fs⟩
def KMore (w : World) (c : KC) (m : KM) (s' : KS) (w' : World) : Prop := ∃ m' B, KT w c m w' m' s' /\ m'.k = m.k /\ m'.js = m.js ++ [B]
def StartEnd (w : World) (c : KC) (m : KM) (s' : KS) (e : Ending) (w' : World) : Prop := e = .returned (.tuple #[]) /\ KMore w c m s' w'
set_option maxHeartbeats 4000000 in
theorem zMV (h : KAt w c m s) {v : Value} {u : Option (Nat × Bj × Et)} (hu : UnderOk m s v u) (jF1 : s.tr.length <= 100000000) {t p : Nat} {x : Jb} {l : List (Jb × Nat)} (hq : s.q t = (x, p) :: l) (jU : IsTop c.ts.length c.P (qj s) t) (hpf : ∀ q ∈ s.ps, Jb.fine q.1) (hpu : (s.ps.map Prod.fst).Pairwise (· ≠ ·)) (hmem : (x, p) ∈ s.ps) (hu1 : ∀ q ∈ s.ps, q.1 = x -> q.2 = p) (hxt : x.t = t) {tv : jA} {ops : List Opn} (htv : c.ts[t]? = some (tv, ops)) {e0 : Et} (he0 : (kB s u).ents[p]? = some e0) (hst : vO 0 s.fs) (hfl : s.fs.length <= 255) (hfr : 0 <= tv.fr /\ tv.fr <= 4096) (hol : ops.length <= 1000) (hov : ∀ y ∈ ops, y.k = 2 -> 0 <= y.a /\ y.a <= 255) (jDx : s.jobs.length <= 1000) (jDy : tv.fl <= 9223372036854775807) : Calls Tryz.prog 158 #[ptr m.k, v] w (StartEnd w c m (startF c (kB s u) t p x l tv ops e0)) := by
 obtain ⟨Z, hZ⟩ : ∃ Z, Z = StartEnd w c m (startF c (kB s u) t p x l tv ops e0) := ⟨_, rfl⟩
 rw [<- hZ]
 have hZ' := zh (fun e w' (h : StartEnd w c m (startF c (kB s u) t p x l tv ops e0) e w') => show Z e w' from by rw [hZ]; exact h)
 have hcj := zh (show (kB s u).jobs.length <= 1000 by rw [zMU]; exact jDx)
 have hct := zh (show (kB s u).tr.length <= 100000001 from Nat.le_trans (zRW u) (by omega))
 have htr : s.tr.length <= 1000000000 := by omega
 have jF2 := zh jDy
 clear hZ jDx jF1 jDy
 have hlt := (h.lt 0 m.k rfl).1
 have hpre := zh (And.intro h hu)
 have jF3 := zh hxt
 have xA := zh (And.intro htv he0)
 unfold ptr
 clear h hu hxt htv he0
 go_enter Tryz.func158, Tryz.ntmps158
 go_upto_region 0 with fail
 go_cut [9, 10] from 9 to 10 (fun _ t wc => w = wc /\ t = .bool u.isSome)
 case first =>
  cases u with
  | none =>
   have hv : v = .pointer none := hpre.out.2
   subst hv
   go_wp2_with fail
   go_meet
   case rel => exact ⟨rfl, rfl⟩
  | some q =>
   obtain ⟨b, rfl, -⟩ := hpre.out.2
   unfold ptr
   go_wp2_with fail
   go_meet
   case rel => exact ⟨rfl, rfl⟩
 obtain ⟨rfl, rfl⟩ := hcut
 go_upto_if 10 with fail
 go_cut [9] from 9 to 36 (fun _ wc => KNow w c m (kB s u) wc)
 case first =>
  cases u with
  | none =>
   obtain ⟨h, hu⟩ := hpre.out
   have jE := zh (show KNow w c m (kB s none) w from ⟨m, h.kt, rfl, rfl⟩)
   have hv : v = .pointer none := hu
   subst hv
   clear h hu hpre
   go_wp2_with fail
   go_meet
   case rel => exact jE.out
  | some q =>
   obtain ⟨i, x, e⟩ := q
   obtain ⟨h, b, rfl, B, rfl, hm, hx, he, hd⟩ := hpre.out
   have k1 := h.bjCov hm hx true
   obtain ⟨W, hW⟩ : ∃ W, W = w.setCell ⟨B.b, 2, none⟩ (.bool true) := ⟨_, rfl⟩
   rw [<- hW] at k1
   have hxl := (List.getElem?_eq_some_iff.1 hx).1
   obtain ⟨g, off, cap, n, hoe, hve, -, hp, hg, -, c17, hc, hf⟩ := k1.1.entry (s := { s with jobs := _ }) he
   have e6 := hc 6 _ rfl
   have f6 := hf (off + x.p * 13 + 6)
   have hb := (h.begun hm hx).1
   have b2 := zAA hb (i := 2) rfl
   have bf := zAC hb 2
   have bl := zAG hb
   have hb' := (k1.1.begun hm (List.getElem?_set_self hxl)).1
   have b1 := zAA hb' (i := 1) rfl
   have bl' := zAG hb'
   have jBm := (k1.1.lt 0 m.k rfl).1
   have hE := zh (fun q => show KT w c m ((W.drewN q).setCell ⟨g, off + x.p * 13 + 6, none⟩ (.int .i64 (e.di + 1))) m { s with jobs := s.jobs.set i { x with cov := true }, ents := s.ents.set x.p { e with di := e.di + 1 } } from
    (k1.new ((Only.refl (fun _ => False) W).drewN q)).trans ((k1.1.new ((Only.refl (fun _ => False) W).drewN q)).entSet (p := x.p) (x := e) (y := { e with di := e.di + 1 }) (j := 6) (u := .int .i64 (e.di + 1)) he (by decide) rfl hve))
   have hwr : IntKind.i64.wrap (e.di + 1) = e.di + 1 := IntWalk.i64_in _ (by omega)
   have hpl := (List.getElem?_eq_some_iff.1 he).1
   obtain ⟨pp, hpp⟩ : ∃ pp, pp = x.p := ⟨_, rfl⟩
   have jBp := zh hpp
   have hW' := zh hW
   have hk0 := zh (And.intro hm (And.intro hx (And.intro he hpl)))
   rw [<- hpp] at e6 f6 hE hp b1
   unfold ptr
   clear h k1 hm hx he hd hxl hb hb' hc hf hoe hve hW hpp hpl
   go_upto_region 2 with fail
   rw [<- hW'.out]
   go_cut [] from 14 to 29 (fun wc => KT w c m wc m { s with jobs := s.jobs.set i { x with cov := true }, ents := s.ents.set pp { e with di := e.di + 1 } })
   case first =>
    refine zAD 16 (by kernel_rfl) (by kernel_rfl) ?_
    simp only [List.take_succ_cons, List.take_zero, List.drop_succ_cons, List.drop_zero]
    repeat (go_big_quiet_step (fail))
    refine wpQuiet_nil ?_
    rintro _ ⟨nq, rfl⟩
    go_wp2_with fail
    go_meet
    case rel =>
     obtain rfl := jBp.out
     exact hE.out _
   have hk2 := hcut
   obtain ⟨hm, hx, he, hpl⟩ := hk0.out
   have hxl := (List.getElem?_eq_some_iff.1 hx).1
   have hb' := (hk2.1.begun hm (List.getElem?_set_self hxl)).1
   have c1 := zAA hb' (i := 1) rfl
   have xX := (hk2.1.lt 0 m.k rfl).1
   have he2 : (s.ents.set pp { e with di := e.di + 1 })[pp]? = some { e with di := e.di + 1 } := List.getElem?_set_self (by rw [jBp.out]; exact hpl)
   have jX := zh (zDI hk2.1 htr he2 ⟨0, 4, 0, 0, 0, 0, 0⟩)
   have jE := zh (fun w9 (hk : KNow wc c m (vD { s with jobs := s.jobs.set i { x with cov := true }, ents := s.ents.set pp { e with di := e.di + 1 } } e.ta e.jb ⟨0, 4, 0, 0, 0, 0, 0⟩) w9) => show KNow w c m (kB s (some (i, x, e))) w9 from by
    obtain ⟨m4, k4, e4, f4⟩ := hk
    obtain rfl := jBp.out
    exact ⟨m4, hk2.trans k4, e4, f4⟩)
   unfold ptr Rc.val KEnd at jX
   dsimp only at jX c1
   rw [<- jBp.out] at c1
   clear hk2 hcut hm hx he hpl hxl hb' he2 hE c17 e6 f6 b1
   go_wp2_with fail
   refine jX.out.mono ?_
   rintro e9 w9 ⟨rfl, hk9⟩
   have zO := zh hk9
   clear hk9
   go_wp2_with fail
   go_meet
   case rel => exact jE.out _ zO.out
 obtain ⟨m1, k1, ek, ej⟩ := hcut
 obtain ⟨S, hS⟩ : ∃ S, S = kB s u := ⟨_, rfl⟩
 rw [<- hS] at k1
 obtain ⟨v1, v2, v3, v4, v5, v6, v7, v8⟩ := zEX (s := s) u
 rw [<- hS] at v1 v2 v3 v4 v5 v6 v7 v8
 have hS' := zh (And.intro hS (And.intro v2 (And.intro v3 (And.intro v4 (And.intro v5 (And.intro v6 (And.intro v7 v8)))))))
 clear hS v2 v3 v4 v5 v6 v7 v8
 rw [<- v1] at hq
 have jU : IsTop c.ts.length c.P (qj S) t := by
  have : qj S = qj s := by unfold qj; rw [v1]
  rw [this]
  exact jU
 obtain ⟨hRd, hBt⟩ := k1.1.p 9
 have hqx : qj S t = x :: l.map Prod.fst := by unfold qj; rw [hq]; rfl
 have vG := zh (take_some hRd hBt jU hqx)
 have c6 := zAA k1.1.root (i := 12) rfl
 have xX := (k1.1.lt 0 m1.k rfl).1
 rw [ek] at c6 xX
 have hup : ∀ i, upd (qj S) t (l.map Prod.fst) i = (upd S.q t l i).map Prod.fst := fun i => (congrFun (zP8 S.q t l) i).symm
 have jE := zh (fun w1 m' (hR : RdAt w1 m1.B m1.r7 m1.G7 m1.s7 m1.m7 c.ts.length c.P S.nx m1.ring m1.o7 (upd (qj S) t (l.map Prod.fst)) m') (hb : Bits c.ts.length c.P (upd (qj S) t (l.map Prod.fst)) m') (hO : Only (rfp m1.r7 m1.G7 m1.s7 m1.m7 c.ts.length m1.ring m1.o7) wc w1) => show Rel0 w c m (takS S t l) x w1.heap.size (w1.alloc (.cells x.cells.toArray 178)) from by
  have e1 : upd (qj S) t (l.map Prod.fst) = fun i => (upd S.q t l i).map Prod.fst := funext hup
  rw [e1] at hR hb
  have k2 := k1.1.rdy_ (q := upd S.q t l) ⟨hR, hb⟩ hO (fun _ h => .inl h)
  exact ⟨⟨_, (k1.trans k2).new ((Only.refl _ _).alloc _), ek, ej, fun hk => by have := k2.1.klt _ hk; omega⟩, zAB _ _ rfl⟩)
 obtain ⟨X, N, R⟩ := x
 unfold RTakeEnd Jb.val at vG
 unfold Jb.cells at jE
 dsimp only at vG jE
 unfold ptr at c6
 have hk1 := zh (And.intro k1 (And.intro ek (And.intro ej (And.intro hq jU))))
 clear k1 hRd hBt hqx hup hq jU v1
 go_upto_region 4 with fail
 go_cut [4, 5] from 37 to 44 (fun v4 v5 wd => ∃ Y, v4 = .pointer (some ⟨Y, 0, none⟩) /\ v5 = .bool true /\ Rel0 w c m (takS S t l) ⟨X, N, R⟩ Y wd)
 case first =>
  go_wp2_with fail
  refine vG.out.mono ?_
  rintro e1 w1 ⟨rfl, m', hR, hb, hO⟩
  have hX := zh (jE.out w1 m' hR hb hO)
  clear hR hb hO
  go_wp2_with fail
  go_meet
  case rel => exact ⟨_, rfl, rfl, hX.out⟩
 obtain ⟨Y, rfl, rfl, hX⟩ := hcut
 clear vG c6 xX jE
 have hX' := zh hX
 obtain ⟨⟨m2, k2, ek2, ej2, hn2⟩, hy2⟩ := hX
 have hP : PlAt wc m2.b8 s.ps := by
  have := k2.1.p 10
  rw [<- hS'.out.2.1]
  exact this
 have xY := zh (fun nq => zRT (hP.kept ((Only.refl (fun _ => False) wc).drewN nq) id) hpf hmem hu1)
 have c7 := zAA k2.1.root (i := 13) rfl
 have xX := (k2.1.lt 0 m2.k rfl).1
 rw [ek2] at c7 xX
 have y0 := zAA hy2 (i := 0) rfl
 have y1 := zAA hy2 (i := 1) rfl
 have y2 := zAA hy2 (i := 2) rfl
 have yl := zAG hy2
 unfold Jb.val at xY
 dsimp only at xY y0 y1 y2 c7
 have hk3 := zh (And.intro k2 (And.intro ek2 (And.intro ej2 (And.intro hn2 hy2))))
 have hps := zh (And.intro hpf (And.intro hpu hmem))
 clear k2 ek2 ej2 hn2 hy2 hP hpf hpu hmem hu1
 go_upto_region 5 with fail
 go_cut [6] from 45 to 50 (fun v6 wd => v6 = .int .i64 p /\ ∃ nq, wd = wc.drewN nq)
 case first =>
  refine zAD 5 (by kernel_rfl) (by kernel_rfl) ?_
  simp only [List.take_succ_cons, List.take_zero, List.drop_succ_cons, List.drop_zero]
  repeat (go_big_quiet_step (fail))
  refine wpQuiet_nil ?_
  rintro _ ⟨nq, rfl⟩
  have hrun := xY.out nq
  go_wp2_with fail
  go_meet
  case rel => exact ⟨rfl, nq, rfl⟩
 obtain ⟨rfl, nq, rfl⟩ := hcut
 go_upto_region 6 with fail
 have hX5 := hX'.out.new ((Only.refl (fun _ => False) wc).drewN nq)
 obtain ⟨W5, hW5⟩ : ∃ W5, W5 = wc.drewN nq := ⟨_, rfl⟩
 rw [<- hW5] at hX5 ⊢
 clear hk3 hX' xY xX c7 y0 y1 y2 yl hW5
 obtain ⟨⟨m2, k2, ek2, ej2, hn2⟩, hy2⟩ := hX5
 have hP : PlAt W5 m2.b8 s.ps := by
  have := k2.1.p 10
  rw [<- hS'.out.2.1]
  exact this
 have wB := zh (fun nq ty => zRU (hP.kept ((Only.refl (fun _ => False) W5).drewN nq) id) hps.out.1 hps.out.2.1 hps.out.2.2 ty)
 have c7 := zAA k2.1.root (i := 13) rfl
 have xX := (k2.1.lt 0 m2.k rfl).1
 rw [ek2] at c7 xX
 have y0 := zAA hy2 (i := 0) rfl
 have y1 := zAA hy2 (i := 1) rfl
 have y2 := zAA hy2 (i := 2) rfl
 have yl := zAG hy2
 unfold Jb.val at wB
 dsimp only at wB y0 y1 y2 c7
 have jE := zh (fun nq w9 (h1 : PlAt w9 m2.b8 (s.ps.filter fun q => decide (q.1 ≠ ⟨X, N, R⟩))) (h2 : Only (fun k => k = m2.b8) (W5.drewN nq) w9) => show Rel0 w c m (drpS (takS S t l) ⟨X, N, R⟩) ⟨X, N, R⟩ Y w9 from by
  have k3 := k2.new ((Only.refl (fun _ => False) W5).drewN nq)
  have k4 := k3.1.plc_ h1 h2
  refine ⟨⟨m2, ?_, ek2, ej2, hn2⟩, (h2.heap (((Only.refl (fun _ => False) W5).drewN nq).heap hy2 id) (fun e => hn2 ⟨10, e⟩))⟩
  have e1 : drpS (takS S t l) ⟨X, N, R⟩ = { takS S t l with ps := s.ps.filter fun q => decide (q.1 ≠ ⟨X, N, R⟩) } := by
   unfold drpS
   rw [show (takS S t l).ps = S.ps from rfl, hS'.out.2.1]
  rw [e1]
  exact k3.trans k4)
 clear k2 hy2 hP ek2 ej2 hn2
 go_cut [] from 51 to 55 (fun wd => Rel0 w c m (drpS (takS S t l) ⟨X, N, R⟩) ⟨X, N, R⟩ Y wd)
 case first =>
  refine zAD 5 (by kernel_rfl) (by kernel_rfl) ?_
  simp only [List.take_succ_cons, List.take_zero, List.drop_succ_cons, List.drop_zero]
  repeat (go_big_quiet_step (fail))
  refine wpQuiet_nil ?_
  rintro _ ⟨nq, rfl⟩
  obtain ⟨w9, hrun, hP9, hO9⟩ := wB.out nq 0
  have hX9 := zh (jE.out nq w9 hP9 hO9)
  clear hP9 hO9
  go_wp2_with fail
  go_meet
  case rel => exact hX9.out
 clear wB jE c7 xX y0 y1 y2 yl
 obtain ⟨⟨m3, k3, ek3, ej3, hn3⟩, hy3⟩ := hcut
 have hX7 := zh (And.intro (And.intro ek3 ej3) k3)
 obtain ⟨gt, ot, ct, nt, c8, -, htn, htl, -, htc⟩ := k3.1.task xA.out.1
 have he0 := xA.out.2
 obtain ⟨g, off, cap, n, hoe, hve, -, hp, hg, hgk, c17, hc, hf⟩ := k3.1.entry (s := drpS (takS S t l) ⟨X, N, R⟩) (show (drpS (takS S t l) ⟨X, N, R⟩).ents[p]? = some e0 by rw [<- hS'.out.1] at he0; exact he0)
 have y0 := zAA hy3 (i := 0) rfl
 rw [ek3] at c8 c17 hgk
 have t0 : wc.cell? ⟨gt, ot + t * 7, none⟩ = some (.int .i64 tv.p) := htc 0 _ rfl
 have t1 := htc 1 _ rfl
 have t2 := htc 2 _ rfl
 have t3 := htc 3 _ rfl
 have t4 := htc 4 _ rfl
 have t5 := htc 5 _ rfl
 have t6 := htc 6 _ rfl
 obtain rfl : X = (t : Int) := jF3.out
 dsimp only at y0 t0 t1 t2 t3 t4 t5 t6
 obtain ⟨W7, hW7⟩ : ∃ W7, W7 = wc := ⟨_, rfl⟩
 have xB := zh (And.intro hoe hve)
 have jC := zh (fun W9 (hO : Only (fun _ => False) wc W9) => show W9.cell? ⟨m.k, 8, none⟩ = _ /\ W9.cell? ⟨m.k, 17, none⟩ = _ /\ W9.cell? ⟨Y, 0, none⟩ = _ /\ W9.cell? ⟨gt, ot + t * 7, none⟩ = _ /\ W9.cell? ⟨gt, ot + t * 7 + 1, none⟩ = _ /\ W9.cell? ⟨gt, ot + t * 7 + 2, none⟩ = _ /\ W9.cell? ⟨gt, ot + t * 7 + 3, none⟩ = _ /\ W9.cell? ⟨gt, ot + t * 7 + 4, none⟩ = _ /\ W9.cell? ⟨gt, ot + t * 7 + 5, none⟩ = _ /\ W9.cell? ⟨gt, ot + t * 7 + 6, none⟩ = _ from
  ⟨hO.cell c8 id, hO.cell c17 id, hO.cell y0 id, hO.cell t0 id, hO.cell t1 id, hO.cell t2 id, hO.cell t3 id, hO.cell t4 id, hO.cell t5 id, hO.cell t6 id⟩)
 clear k3 hy3 hoe hve hc hf htc he0 ek3 ej3 hn3 jU
 clear hk1 hps
 go_upto_region 7 with fail
 go_cut [7, 8] from 56 to 69 (fun v7 v8 wd => v8 = .pointer (some ⟨g, off + p * 13, none⟩) /\ ∃ T, v7 = .pointer (some ⟨T, 0, none⟩) /\ Only (fun _ => False) W7 wd /\ W7.heap.size <= T /\ wd.heap[T]? = some (.cells tv.cells.toArray 63 (0, 0)))
 case first =>
  subst hW7
  go_region_held3 (fun W' => W'.cell? ⟨m.k, 8, none⟩ = some (.slice (some ⟨gt, ot, none⟩) nt ct) /\ W'.cell? ⟨m.k, 17, none⟩ = some (.slice (some ⟨g, off, none⟩) n cap) /\ W'.cell? ⟨Y, 0, none⟩ = some (.int .i64 t) /\ W'.cell? ⟨gt, ot + t * 7, none⟩ = some (.int .i64 tv.p) /\ W'.cell? ⟨gt, ot + t * 7 + 1, none⟩ = some (.int .i64 tv.th) /\ W'.cell? ⟨gt, ot + t * 7 + 2, none⟩ = some (.int .i64 tv.pe) /\ W'.cell? ⟨gt, ot + t * 7 + 3, none⟩ = some (.int .i64 tv.de) /\ W'.cell? ⟨gt, ot + t * 7 + 4, none⟩ = some (.int .i64 tv.fr) /\ W'.cell? ⟨gt, ot + t * 7 + 5, none⟩ = some (.int .i64 tv.fl) /\ W'.cell? ⟨gt, ot + t * 7 + 6, none⟩ = some (.slice tv.o.A tv.o.n tv.o.cap))
   (exact jC.out _ (by repeat (first | with_reducible assumption | with_reducible exact Only.refl _ _ | with_reducible refine Only.setCell ?_ (p := ⟨_, _, none⟩) (fun hlt => absurd hlt (by first | exact Nat.lt_irrefl _ | (dsimp only; omega))) _ | with_reducible apply Only.drew | with_reducible apply Only.alloc)))
   (fail)
  all_goals
   go_wp2
   go_meet
   case rel => exact ⟨rfl, _, rfl, (by repeat (first | with_reducible exact Only.refl _ _ | with_reducible apply Only.drew | with_reducible apply Only.alloc)), Nat.le_refl _, zAB _ _ rfl⟩
 obtain ⟨rfl, T, rfl, hO8, hT8, hTy⟩ := hcut
 have hS8 := zh (show St7 w c m (drpS (takS S t l) ⟨(t : Int), N, R⟩) g off cap n T tv wc from by
  rw [hW7] at hO8 hT8
  exact ⟨⟨m3, hX7.out.2.new hO8, hX7.out.1.1, hX7.out.1.2, xB.out.1, xB.out.2, fun hk => by have := hX7.out.2.1.klt _ hk; omega⟩, hTy⟩)
 obtain ⟨D, hD⟩ : ∃ D, D = drpS (takS S t l) ⟨(t : Int), N, R⟩ := ⟨_, rfl⟩
 rw [<- hD] at hS8
 have he8 : D.ents[p]? = some e0 := by
  rw [hD]
  have := xA.out.2
  rw [<- hS'.out.1] at this
  exact this
 obtain ⟨hg8, hc8, hf8, hr8, jF4⟩ := hS8.out.cells he8
 have c19 := zAA hr8 (i := 19) rfl
 have hl8 := zAG hr8
 have s3 := hc8 3 _ rfl
 have f3 := hf8 (off + p * 13 + 3)
 have h8 := zh (show St7 w c m { D with ents := D.ents.set p { e0 with st := D.now } } g off cap n T tv (wc.setCell ⟨g, off + p * 13 + 3, none⟩ (.int .i64 D.now)) from hS8.out.set (x := e0) (y := { e0 with st := D.now }) (j := 3) (u := .int .i64 D.now) he8 (by decide) rfl)
 have hD' := zh (And.intro hD he8)
 have jF5 := zh hO8
 clear hD he8 hO8 hT8 hTy hr8 hc8 hf8 hX7 xB jC hW7 c8 c17 t0 t1 t2 t3 t4 t5 t6 y0
 go_upto_region 9 with fail
 obtain ⟨W8, hW8⟩ : ∃ W8, W8 = wc.setCell ⟨g, off + p * 13 + 3, none⟩ (.int .i64 D.now) := ⟨_, rfl⟩
 rw [<- hW8] at h8 ⊢
 clear hW8
 obtain ⟨S8, jAu⟩ : ∃ S8 : KS, S8 = { D with ents := D.ents.set p { e0 with st := D.now } } := ⟨_, rfl⟩
 rw [<- jAu] at h8
 have he9 : S8.ents[p]? = some { e0 with st := D.now } := by
  rw [jAu]
  exact List.getElem?_set_self (List.getElem?_eq_some_iff.1 hD'.out.2).1
 have hfs : S8.fs = s.fs := by rw [jAu]; show D.fs = _; rw [hD'.out.1]; exact hS'.out.2.2.2.2.1
 obtain ⟨⟨m4, k4, e4, f4, a4, b4, n4⟩, hT4⟩ := h8.out
 have xZ := zh (fun W0 (h0 : Only (fun _ => False) W8 W0) => zRA (show StAt W0 m4.b10 m4.o10 S8.pk S8.fs from (k4.1.new h0).p 12) (by rw [hfs]; exact hst) (by rw [hfs]; exact hfl) p hfr.1 hfr.2)
 have jE := zh (fun W0 w9 o' (h0 : Only (fun _ => False) W8 W0) (h1 : StAt w9 m4.b10 o' (max S8.pk (deep S8.fs + tv.fr)) (S8.fs ++ [⟨(p : Int), deep S8.fs, tv.fr⟩])) (hh : o' = m4.o10 ∨ ∃ g, o' = some g /\ W0.heap.size <= g) (hO : Only (ffp m4.b10 m4.o10) W0 w9) => show St7 w c m { S8 with pk := max S8.pk (deep S8.fs + tv.fr), fs := S8.fs ++ [⟨(p : Int), deep S8.fs, tv.fr⟩] } g off cap n T tv w9 from by
  have k5 := k4.new h0
  have k6 := k5.1.stk_ (o10 := o') h1 hO (fun k hk => by
   rcases hk with hk | hk
   ·exact .inl (.inl hk)
   ·rcases hh with e | ⟨g9, e, hg9⟩
    ·exact .inl (.inr (e ▸ hk))
    ·rw [e] at hk
     cases hk
     exact .inr hg9)
  have hT5 := h0.heap hT4 id
  refine ⟨⟨_, k5.trans k6, e4, f4, a4, b4, fun hk => ?_⟩, hO.heap hT5 (fun hk => n4 ⟨12, hk⟩)⟩
  rcases k6.2.2 T hk with hk | hk
  ·exact n4 hk
  ·have := zAG hT5; omega)
 have c15 := zAA k4.1.root (i := 15) rfl
 have hl4 := zAG k4.1.root
 rw [e4] at c15 hl4
 have tf := zAA hT4 (i := 4) rfl
 have tl := zAG hT4
 unfold PushEnd at xZ
 unfold ptr at c15
 have hgT : T ≠ g := fun e => n4 ⟨14, by show m4.oe = some T; rw [a4]; exact congrArg some e.symm⟩
 have jC := zh (fun W0 (h0 : Only (fun _ => False) W8 W0) => And.intro (h0.cell c15 id) (h0.cell tf id))
 have vW := zh (fun W0 w9 (o' : Option Nat) (h0 : Only (fun _ => False) W8 W0) (_ : o' = m4.o10 ∨ ∃ g, o' = some g /\ W0.heap.size <= g) (hO : Only (ffp m4.b10 m4.o10) W0 w9) => And.intro (hO.cell (h0.cell c15 id) (fun hk => k4.1.ap 12 0 (by decide) m.k hk e4.symm)) (hO.cell (h0.cell tf id) (fun hk => n4 ⟨12, hk⟩)))
 have hS9 := zh (And.intro jAu hfs)
 have jCq := zh he9
 obtain ⟨dp, hdp⟩ : ∃ dp, dp = deep S8.fs := ⟨_, rfl⟩
 rw [<- hdp] at xZ jE
 have jF6 := zh hdp
 clear k4 a4 b4 n4 hT4 jAu hfs he9 hdp hst hfl hfr hS8 h8 jF5 c19 hl8 s3 f3 hg8 jF4
 go_cut [] from 78 to 92 (fun wd => St7 w c m { S8 with pk := max S8.pk (dp + tv.fr), fs := S8.fs ++ [⟨(p : Int), dp, tv.fr⟩], ents := S8.ents.set p { e0 with st := D.now, ba := dp } } g off cap n T tv wd)
 case first =>
  go_region_held3 (fun W' => W'.cell? ⟨m.k, 15, none⟩ = some (.pointer (some ⟨m4.b10, 0, none⟩)) /\ W'.cell? ⟨T, 4, none⟩ = some (.int .i64 tv.fr))
   (first | exact jF7.out | exact hkp.out | exact jC.out _ (by repeat (first | with_reducible assumption | with_reducible exact Only.refl _ _ | with_reducible apply Only.drew | with_reducible apply Only.alloc)))
   (first | (go_at_call 216; (with_reducible refine (xZ.out _ (by repeat (first | with_reducible assumption | with_reducible exact Only.refl _ _ | with_reducible apply Only.drew | with_reducible apply Only.alloc))).mono ?_); rintro e1 w9 ⟨rfl, o', jDz, ho9, hO9⟩; have h9 := zh (jE.out _ w9 o' (by repeat (first | with_reducible assumption | with_reducible exact Only.refl _ _ | with_reducible apply Only.drew | with_reducible apply Only.alloc)) jDz ho9 hO9); obtain ⟨hg9, hc9, hf9, hr9, jF8⟩ := h9.out.cells jCq.out; have s10 := hc9 10 _ rfl; have f10 := hf9 (off + p * 13 + 10); have h10 := zh (h9.out.set (x := { e0 with st := D.now }) (y := { e0 with st := D.now, ba := dp }) (j := 10) (u := .int .i64 dp) jCq.out (by decide) rfl); have hkp := zh (vW.out _ w9 o' (by repeat (first | with_reducible assumption | with_reducible exact Only.refl _ _ | with_reducible apply Only.drew | with_reducible apply Only.alloc)) ho9 hO9); have jF7 := zh (And.intro (((Only.refl (fun k => k = g) w9).setCell (p := ⟨g, off + p * 13 + 10, none⟩) (fun _ => rfl) (.int .i64 dp)).cell hkp.out.1 (fun e => jF8 e.symm)) (((Only.refl (fun k => k = g) w9).setCell (p := ⟨g, off + p * 13 + 10, none⟩) (fun _ => rfl) (.int .i64 dp)).cell hkp.out.2 hgT)); clear jDz ho9 hO9 hc9 hf9 hr9))
  all_goals
   go_wp2
   go_meet
   case rel => exact h10.out
 clear xZ jE jC vW c15 hl4 tf tl
 obtain ⟨SA, hSA⟩ : ∃ SA : KS, SA = { S8 with pk := max S8.pk (dp + tv.fr), fs := S8.fs ++ [⟨(p : Int), dp, tv.fr⟩], ents := S8.ents.set p { e0 with st := D.now, ba := dp } } := ⟨_, rfl⟩
 rw [<- hSA] at hcut
 have heA : SA.ents[p]? = some { e0 with st := D.now, ba := dp } := by
  rw [hSA]
  exact List.getElem?_set_self (List.getElem?_eq_some_iff.1 jCq.out).1
 obtain ⟨EA, hEA⟩ : ∃ EA : Et, EA = { e0 with st := D.now, ba := dp } := ⟨_, rfl⟩
 rw [<- hEA] at heA
 have hA' := zh hcut
 obtain ⟨⟨m5, k5, e5, f5, a5, b5, n5⟩, hT5⟩ := hcut
 obtain ⟨zP, yA⟩ := k5.1.opn xA.out.1
 have jBq := zh hol
 have jIv := zh (List.getElem?_eq_some_iff.1 heA).1
 obtain ⟨am, ham⟩ : ∃ am, am = (alF c.s c.w c.h c.mi SA.cg ops).1 := ⟨_, rfl⟩
 obtain ⟨ac, hac⟩ : ∃ ac, ac = (alF c.s c.w c.h c.mi SA.cg ops).2.1 := ⟨_, rfl⟩
 have hal := zh (fun W0 (h0 : Only (fun _ => False) wc W0) => zMT (cap := tv.o.cap) ((k5.1.new h0).p 13) (zP.new h0) yA (by rw [<- yA]; exact hol) hov c.s c.w c.h c.mi)
 rw [<- ham, <- hac] at hal
 have jF9 := zh ham
 have jGa := zh hac
 have hrt := k5.1.root
 rw [e5] at hrt
 have hlr := zAG hrt
 have hkg : m.k ≠ g := fun e => k5.1.ap 14 0 (by decide) g (show m5.oe = some g from a5) (e.symm.trans e5.symm)
 have jC := zh (fun W0 (h0 : Only (fun k => k = g) wc W0) => And.intro (zAA (h0.heap hrt hkg) (i := 4) rfl) (And.intro (zAA (h0.heap hrt hkg) (i := 5) rfl) (And.intro (zAA (h0.heap hrt hkg) (i := 6) rfl) (And.intro (zAA (h0.heap hrt hkg) (i := 7) rfl) (And.intro (zAA (h0.heap hrt hkg) (i := 16) rfl) (zAA (h0.heap hT5 hgT) (i := 6) rfl))))))
 have zH := zh (fun W0 (h0 : Only (fun _ => False) wc W0) => show St7 w c m { SA with ents := (SA.ents.set p { EA with am := am }).set p { EA with am := am, ac := ac } } g off cap n T tv ((W0.setCell ⟨g, off + p * 13 + 11, none⟩ (.int .i64 am)).setCell ⟨g, off + p * 13 + 12, none⟩ (.int .i64 ac)) from
  ((hA'.out.new h0).set (x := EA) (y := { EA with am := am }) (j := 11) (u := .int .i64 am) heA (by decide) rfl).set (x := { EA with am := am }) (y := { EA with am := am, ac := ac }) (j := 12) (u := .int .i64 ac) (List.getElem?_set_self (List.getElem?_eq_some_iff.1 heA).1) (by decide) rfl)
 obtain ⟨hgA, hcA, hfA, -, -⟩ := hA'.out.cells heA
 have sA := zh (fun W0 (h0 : Only (fun _ => False) wc W0) => And.intro (h0.cell (hcA 11 _ rfl) id) (And.intro (h0.cell (hcA 12 _ rfl) id) (And.intro (((hA'.out.new h0).cells heA).2.2.1 (off + p * 13 + 11)) (And.intro (((hA'.out.new h0).cells heA).2.2.1 (off + p * 13 + 12)) ((hA'.out.new h0).cells heA).1))))
 unfold ptr at jC
 have hA2 := zh (And.intro hSA hEA)
 clear k5 e5 f5 a5 b5 n5 hT5 zP yA ham hac hrt hkg hcA hfA heA hSA hEA hol hov
 go_upto_region 10 with fail
 go_cut [] from 93 to 114 (fun wd => St7 w c m { SA with ents := (SA.ents.set p { EA with am := am }).set p { EA with am := am, ac := ac } } g off cap n T tv wd)
 case first =>
  go_region_held3 (fun W' => W'.cell? ⟨m.k, 4, none⟩ = some (.int .i64 c.s) /\ W'.cell? ⟨m.k, 5, none⟩ = some (.int .i64 c.w) /\ W'.cell? ⟨m.k, 6, none⟩ = some (.int .i64 c.h) /\ W'.cell? ⟨m.k, 7, none⟩ = some (.int .i64 c.mi) /\ W'.cell? ⟨m.k, 16, none⟩ = some (.pointer (some ⟨m5.r11, 0, none⟩)) /\ W'.cell? ⟨T, 6, none⟩ = some (.slice tv.o.A tv.o.n tv.o.cap))
   (exact jC.out _ (by repeat (first | with_reducible assumption | with_reducible exact Only.refl _ _ | with_reducible refine Only.setCell ?_ (p := ⟨_, _, none⟩) (fun _ => by first | rfl | exact rfl) _ | with_reducible apply Only.drew | with_reducible apply Only.alloc)))
   (first | (go_at_call 217; (with_reducible refine (hal.out _ (by repeat (first | with_reducible assumption | with_reducible exact Only.refl _ _ | with_reducible apply Only.drew | with_reducible apply Only.alloc))).mono ?_); rintro e1 w9 ⟨rfl, hO9⟩; have zQ : Only (fun _ => False) wc w9 := Only.trans' (a := wc) (by repeat (first | with_reducible assumption | with_reducible exact Only.refl _ _ | with_reducible apply Only.drew | with_reducible apply Only.alloc)) hO9; have hOg : Only (fun k => k = g) wc w9 := zQ.mono (fun _ _ h => h.elim); obtain ⟨s11, s12, f11, f12, hg9⟩ := sA.out _ zQ; have h10 := zh (zH.out _ zQ); clear hO9))
  all_goals
   go_wp2
   go_meet
   case rel => exact h10.out
 obtain ⟨SB, hSB⟩ : ∃ SB : KS, SB = { SA with ents := (SA.ents.set p { EA with am := am }).set p { EA with am := am, ac := ac } } := ⟨_, rfl⟩
 rw [<- hSB] at hcut
 have jCr := zh hSB
 have hjl : SB.jobs.length <= 1000000 := by
  rw [hSB]
  show SA.jobs.length <= _
  rw [hA2.out.1]
  show S8.jobs.length <= _
  rw [hS9.out.1]
  show D.jobs.length <= _
  rw [hD'.out.1]
  show S.jobs.length <= _
  rw [hS'.out.1]
  have := hcj.out
  omega
 clear hSB
 have hB' := zh hcut
 obtain ⟨⟨m6, k6, e6, f6, a6, b6, n6⟩, hT6⟩ := hcut
 obtain ⟨zP, yA⟩ := k6.1.opn xA.out.1
 have hjn := zh (fun W0 (h0 : Only (fun _ => False) wc W0) => zOY (zP.new h0) yA (by rw [<- yA]; exact jBq.out))
 have hjo := zh (zMD (t := tv) (l := ops) jBq.out jF2.out)
 have hrt := k6.1.root
 rw [e6] at hrt
 have c14 := zAA hrt (i := 14) rfl
 obtain ⟨pj, cj, hvj, hcj, jIw⟩ := Win.form (show Win wc 141 1 m6.vj m6.oj SB.jobs.length (rowC bmV m6.js) from (k6.1.p 11).1)
 obtain ⟨nj, hnj⟩ : ∃ nj, nj = SB.jobs.length := ⟨_, rfl⟩
 rw [hvj, <- hnj] at c14
 rw [<- hnj] at hjl hcj
 have jD0 := zh hnj
 have jGb := zh hvj
 have hlr := zAG hrt
 have t0 := zAA hT6 (i := 0) rfl
 have t1 := zAA hT6 (i := 1) rfl
 have t2 := zAA hT6 (i := 2) rfl
 have t3 := zAA hT6 (i := 3) rfl
 have t4 := zAA hT6 (i := 4) rfl
 have t5 := zAA hT6 (i := 5) rfl
 have t6 := zAA hT6 (i := 6) rfl
 have tl := zAG hT6
 have xM := zh (fun W0 (hW0 : Only (fun _ => False) wc W0) => show Win W0 141 1 (.slice pj nj cj) m6.oj nj (rowC bmV m6.js) from by
  have := Win.kept (show Win wc 141 1 m6.vj m6.oj SB.jobs.length (rowC bmV m6.js) from (k6.1.p 11).1) hW0 (fun _ _ h => h)
  rw [jGb.out, <- jD0.out] at this
  exact this)
 have hko : ¬ some m.k = m6.oj := fun e => k6.1.ap 11 0 (by decide) m.k (.inl e.symm) e6.symm
 have xW := zh (fun W0 w3 (hW0 : Only (fun _ => False) wc W0) (h3 : Only (fun x => some x = m6.oj) W0 w3) => show m.k < w3.heap.size /\ w3.frozen? ⟨m.k, 14, none⟩ = false /\ w3.cell? ⟨m.k, 14, none⟩ = some (.slice pj nj cj) from by
  have hb3 := h3.heap (hW0.heap hrt id) hko
  exact ⟨zAG hb3, zAC hb3 14, h3.cell (hW0.cell c14 id) hko⟩)
 have hK := zh (fun W0 w3 v' o'' b o Y (hW0 : Only (fun _ => False) wc W0) (hbj : Hid (JbAt W0 b o (newJ tv ops))) (hnew : Hid (∀ k, jfp b o k -> wc.heap.size <= k)) (hY : W0.heap[Y]? = some (.cells #[.pointer (some ⟨b, 0, none⟩), .int .i64 p, .bool false] 149 (0, 0))) (hYn : wc.heap.size <= Y) (hE3 : Hid (Win w3 141 1 v' o'' (nj + 1) (rowC bmV m6.js ++ [.pointer (some ⟨Y, 0, none⟩)]))) (h3 : Hid (Only (fun x => some x = m6.oj) W0 w3)) (hh : Hid (o'' = m6.oj ∨ ∃ g, o'' = some g /\ W0.heap.size <= g)) => show St8 w c m { SB with jobs := SB.jobs ++ [⟨newJ tv ops, p, false⟩] } g off cap n (w3.setCell ⟨m.k, 14, none⟩ v') from by
  have h9 := k6.1.jobAdd (x := ⟨newJ tv ops, p, false⟩) (B := ⟨Y, b, o⟩) hW0 ⟨hY, hbj.out, hjo.out⟩ (fun k hk => by
   rcases hk with hk | hk
   ·rw [show k = Y from hk]; exact hYn
   ·exact hnew.out k hk) (by rw [<- jD0.out]; exact hE3.out) h3.out hh.out
  rw [e6] at h9
  exact ⟨_, ⟨Y, b, o⟩, k6.trans h9, rfl, by show m6.js ++ _ = _; rw [f6], a6, b6⟩)
 have jCl : nj + 1 <= maxLen := by unfold maxLen; omega
 have hcl := zh (fun W0 (h0 : Only (fun _ => False) wc W0) => And.intro (h0.cell c14 id) (And.intro (Nat.lt_of_lt_of_le hlr h0.size) (And.intro (h0.cell t0 id) (And.intro (h0.cell t1 id) (And.intro (h0.cell t2 id) (And.intro (h0.cell t3 id) (And.intro (h0.cell t4 id) (And.intro (h0.cell t5 id) (And.intro (h0.cell t6 id) (Nat.lt_of_lt_of_le tl h0.size))))))))))
 unfold jA.val at hjn
 clear k6 e6 f6 a6 b6 n6 hT6 zP yA hrt hnj hvj hko
 go_upto_region 11 with fail
 go_cut [] from 115 to 128 (fun wd => St8 w c m { SB with jobs := SB.jobs ++ [⟨newJ tv ops, p, false⟩] } g off cap n wd)
 case first =>
  go_region_law (first
   | (refine zCF rfl Tryz.func218 (by kernel_rfl) rfl _ _ rfl [.agg #[.int .i64 tv.p, .int .i64 tv.th, .int .i64 tv.pe, .int .i64 tv.de, .int .i64 tv.fr, .int .i64 tv.fl, tv.o.val]] rfl (hjn.out _ (by repeat (first | assumption | exact Only.refl _ _ | refine Only.drew ?_ | refine Only.alloc ?_ _))) ?_; rintro e w4 ⟨b, o, rfl, hjb, hjf, ho4⟩; have zY := Only.trans' (a := wc) (by repeat (first | assumption | exact Only.refl _ _ | refine Only.drew ?_ | refine Only.alloc ?_ _)) ho4; obtain ⟨q14, qk, q0, q1, q2, q3, q4, q5, q6, ql⟩ := hcl.out _ zY; have jGc := zh hjb; have jGd := zh hjf; clear hjb hjf ho4; refine ⟨_, rfl, ?_⟩)
   | (refine zBE rfl (.tmp 119) (.tmp 125) 120 rfl 141 (.pointer none) 1 8 Tryz.underlying120 zRV rfl (by decide) (v := .slice pj nj cj) (h := m6.oj) (by rfl) (xM.out _ (by repeat (first | assumption | exact Only.refl _ _ | refine Only.drew ?_ | refine Only.alloc ?_ _))) _ 1 1 (by rfl) [_] rfl (fun _ => ⟨_, rfl, zPC (zAB _ _ (by simp))⟩) (by simp [Value.oneCell']) jCl (by omega) ?_; intro v6 w6 h6 hW6 hO6 hh6; obtain ⟨p6, c6, rfl, _, _⟩ := hW6.out.form; obtain ⟨g1, g2, g3⟩ := xW.out _ w6 (by repeat (first | assumption | exact Only.refl _ _ | refine Only.drew ?_ | refine Only.alloc ?_ _)) hO6.out; have hE6 := zh (hK.out _ w6 _ h6 b o w4.heap.size (by repeat (first | assumption | exact Only.refl _ _ | refine Only.drew ?_ | refine Only.alloc ?_ _)) (zh (jGc.out.kept (((Only.refl (fun _ => False) w4).alloc _).alloc _) (fun _ _ h => h))) (zh (fun k hk => jGd.out k hk)) (zAF (zAB _ _ rfl) _) zY.size hW6 hO6 hh6)))
  all_goals
   have h10 := zh hE6.out
   go_wp2
   go_meet
   case rel => exact h10.out
 obtain ⟨SC, hSC⟩ : ∃ SC : KS, SC = { SB with jobs := SB.jobs ++ [⟨newJ tv ops, p, false⟩] } := ⟨_, rfl⟩
 rw [<- hSC] at hcut
 obtain ⟨m7, B7, k7, e7, f7, a7, b7⟩ := hcut.k
 obtain ⟨EC, hEC⟩ : ∃ EC : Et, EC = { EA with am := am, ac := ac } := ⟨_, rfl⟩
 have jD1 : p < D.ents.length := (List.getElem?_eq_some_iff.1 hD'.out.2).1
 have yB : SC.ents = D.ents.set p EC := by
  rw [hSC]
  show SB.ents = _
  rw [jCr.out]
  show (SA.ents.set p _).set p _ = _
  rw [List.set_set, hA2.out.1]
  show (S8.ents.set p _).set p _ = _
  rw [List.set_set, hS9.out.1]
  show (D.ents.set p _).set p _ = _
  rw [List.set_set, hEC]
 have heC : SC.ents[p]? = some EC := by
  rw [yB]
  exact List.getElem?_set_self jD1
 have jD2 : SC.tr.length <= 1000000000 := by
  rw [hSC]
  show SB.tr.length <= _
  rw [jCr.out]
  show SA.tr.length <= _
  rw [hA2.out.1]
  show S8.tr.length <= _
  rw [hS9.out.1]
  show D.tr.length <= _
  rw [hD'.out.1]
  show S.tr.length <= _
  rw [hS'.out.1]
  exact Nat.le_trans hct.out (by decide)
 have hba : EC.ba = dp := by rw [hEC, hA2.out.2]
 have yT : vD SC EC.ta EC.jb ⟨0, 3, 0, 0, 0, 0, dp⟩ = startF c (kB s u) t p ⟨(t : Int), N, R⟩ l tv ops e0 := by
  rw [<- hS'.out.1, hEC, hSC, jCr.out, jF9.out, jGa.out, hA2.out.2, hA2.out.1, jF6.out, hS9.out.1, hD'.out.1]
  unfold startF vD drpS takS
  simp only [List.set_set]
 have jX := zh (zDI k7.1 jD2 heC ⟨0, 3, 0, 0, 0, 0, dp⟩)
 rw [yT] at jX
 obtain ⟨g', off', cap', n', h1, h2, -, -, hg9, -, -, hc9, -⟩ := k7.1.entry heC
 rw [a7] at h1
 rw [b7] at h2
 cases h1
 cases h2
 have c10 := hc9 10 _ rfl
 rw [hba] at c10
 have jE := zh (fun w9 (hk : KNow wc c m7 (startF c (kB s u) t p ⟨(t : Int), N, R⟩ l tv ops e0) w9) => show KMore w c m (startF c (kB s u) t p ⟨(t : Int), N, R⟩ l tv ops e0) w9 from by
  obtain ⟨m9, k9, e9, f9⟩ := hk
  exact ⟨m9, B7, k7.trans k9, e9.trans e7, f9.trans f7⟩)
 unfold ptr Rc.val KEnd at jX
 rw [e7] at jX
 dsimp only at jX
 clear k7 e7 f7 a7 b7 hcut yB heC jD2 hba yT hc9 hEC hSC jD1
 go_wp2_with fail
 refine jX.out.mono ?_
 rintro e9 w9 ⟨rfl, hk9⟩
 have zO := zh hk9
 clear hk9
 go_wp2
 go_end0
 exact hZ'.out _ _ ⟨rfl, jE.out _ zO.out⟩
end
