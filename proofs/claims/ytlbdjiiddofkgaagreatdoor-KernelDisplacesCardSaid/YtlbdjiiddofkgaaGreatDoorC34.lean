import Derived.Test.YtlbdjiiddofkgaaGreatDoorC31
import Derived.Test.YtlbdjiiddofkgaaGreatDoorC33
set_option maxRecDepth 100000
namespace Go.Proofs.YtlbdjiiddofkgaaGreatDoor
namespace Krn
open Go Go.RowKit Go.Maps Ring Band
section
variable {w w' : World} {c : KC} {m : KM} {s : KS}
def wO (c : KC) (s : KS) (o : Opn) : Bool := decide (o.k = 2) && decide (o.a ∈ s.cg (o.a.toNat % c.s))
def begA (c : KC) (s : KS) (o : Opn) (x : Bj) (e : Et) : KS := if o.k = 2 then accF c s o.a.toNat x.p e else s
def begB (c : KC) (s : KS) (o : Opn) (i : Nat) (x : Bj) (e : Et) : KS := { begA c s o x e with jobs := s.jobs.set i { x with j := (beginF x.j o (ofZ o c.h c.mi (wO c s o))).1 } }
def begC (c : KC) (s : KS) (o : Opn) (i : Nat) (x : Bj) (e : Et) : KS :=
 if callK o.k = true then vD (opF c (begB c s o i x e) o x.p).1 e.ta e.jb ⟨0, 8, 0, 0, o.k, (opF c (begB c s o i x e) o x.p).2.1, (opF c (begB c s o i x e) o x.p).2.2⟩ else begB c s o i x e
theorem zK0 (h : KAt w c m s) {i : Nat} {b : Bm} {x : Bj} (hm : m.js[i]? = some b) (hx : s.jobs[i]? = some x) (ho : opOf x.j = none) : Calls Tryz.prog 104 #[ptr m.k, ptr b.b] w (KEnd w c m s (.tuple #[])) := by
 obtain ⟨h1, h2, h3⟩ := h.begun hm hx
 have hop := zh (zOW h2 h3.r.1 ho)
 have b0 := zAA h1 (i := 0) rfl
 have bl := zAG h1
 have hk := zh (fun w1 (hO : Only (fun _ => False) w w1) => h.know hO)
 unfold ptr KEnd at *
 clear h h1 h2 h3 hm hx ho
 go_enter Tryz.func104, Tryz.ntmps104
 go_wp2_with fail
 refine hop.out.mono ?_
 rintro e1 w1 ⟨rfl, hO⟩
 have hO' := zh hO
 clear hO
 unfold yQ Opn.val
 go_wp2
 exact bodyPost_ret (v := .tuple #[]) (by simp [results, Tryz.results104, go_sem]) rfl ⟨rfl, hk.out _ (hO'.out.alloc _)⟩
theorem zMR (o : Opn) (x : Bj) (e : Et) : (begA c s o x e).jobs = s.jobs /\ (begA c s o x e).tr = s.tr /\ ∃ e', (begA c s o x e).ents[x.p]? = (if s.ents[x.p]?.isSome then some e' else none) /\ (s.ents[x.p]? = some e -> e'.ta = e.ta /\ e'.jb = e.jb) := by
 unfold begA
 split
 ·refine ⟨rfl, rfl, (if (o.a.toNat : Int) ∈ s.cg (o.a.toNat % c.s) then { e with hi := e.hi + 1 } else { e with mi := e.mi + 1 }), ?_, fun _ => by split <;> exact ⟨rfl, rfl⟩⟩
  show (s.ents.set x.p _)[x.p]? = _
  rw [List.getElem?_set]
  by_cases h : x.p < s.ents.length
  ·simp [h]
  ·simp [h]
 ·refine ⟨rfl, rfl, (s.ents[x.p]?).getD e, ?_, fun h => by rw [h]; exact ⟨rfl, rfl⟩⟩
  cases h : s.ents[x.p]? <;> simp
theorem newZ {W0 w1 : World} {T : Nat} {S : Nat -> Prop} (hO : Only S W0 w1) (hn : W0.heap[T]? = some (.cells [Value.int .i64 0, Value.int .i64 0, Value.int .i64 0, Value.int .i64 0, Value.int .i64 0, Value.int .i64 0, Value.int .i64 0].toArray 60 (0, 0))) (hS : ¬ S T := by exact fun h => h) :
  w1.cell? ⟨T, 0, none⟩ = some (.int .i64 0) /\ w1.cell? ⟨T, 1, none⟩ = some (.int .i64 0) /\ w1.cell? ⟨T, 2, none⟩ = some (.int .i64 0) /\ w1.cell? ⟨T, 3, none⟩ = some (.int .i64 0) /\ w1.cell? ⟨T, 4, none⟩ = some (.int .i64 0) /\ w1.cell? ⟨T, 5, none⟩ = some (.int .i64 0) /\ w1.cell? ⟨T, 6, none⟩ = some (.int .i64 0) /\
  w1.frozen? ⟨T, 0, none⟩ = false /\ w1.frozen? ⟨T, 1, none⟩ = false /\ w1.frozen? ⟨T, 2, none⟩ = false /\ w1.frozen? ⟨T, 3, none⟩ = false /\ w1.frozen? ⟨T, 4, none⟩ = false /\ w1.frozen? ⟨T, 5, none⟩ = false /\ w1.frozen? ⟨T, 6, none⟩ = false /\ T < w1.heap.size := by
 have h := hO.heap hn hS
 exact ⟨zAA h (i := 0) rfl, zAA h (i := 1) rfl, zAA h (i := 2) rfl, zAA h (i := 3) rfl, zAA h (i := 4) rfl, zAA h (i := 5) rfl, zAA h (i := 6) rfl, zAC h 0, zAC h 1, zAC h 2, zAC h 3, zAC h 4, zAC h 5, zAC h 6, zAG h⟩
def sameF (s : KS) (r : KS × Int × Int) : Prop := r.1.jobs = s.jobs /\ r.1.tr = s.tr /\ r.1.ents = s.ents
theorem zMS {p : Prop} [Decidable p] {a b : KS × Int × Int} (ha : sameF s a) (hb : sameF s b) : sameF s (if p then a else b) := by
 split
 ·exact ha
 ·exact hb
theorem zPA (o : Opn) (who : Nat) : sameF s (opF c s o who) := by
 unfold opF
 dsimp only
 repeat' refine zMS ?_ ?_
 all_goals first | exact ⟨rfl, rfl, rfl⟩ | (cases s.box o.a.toNat <;> exact ⟨rfl, rfl, rfl⟩)
structure Beg3 (w : World) (c : KC) (m : KM) (s2 : KS) (r : Rc) (T : Nat) (W : World) : Prop where
 k : KNow w c m s2 W
 y : W.heap[T]? = some (.cells r.cells.toArray 60 (0, 0))
 n : w.heap.size <= T
theorem zTE {wb W0 w3 : World} {s2 : KS} (h0 : Only (fun _ => False) wb W0) (hk : KNow W0 c m s2 w3) (r : Rc) : Beg3 wb c m s2 r w3.heap.size (w3.alloc (.cells r.cells.toArray 60)) := by
 obtain ⟨m3, k3, ek, ej⟩ := hk
 exact ⟨⟨m3, (k3.back h0).new ((Only.refl _ _).alloc _), ek, ej⟩, zAB _ _ rfl, Nat.le_trans h0.size k3.2.1.size⟩
theorem zTF {wb W0 w3 : World} {s2 : KS} (h : KAt wb c m s) (h0 : Only (fun _ => False) wb W0) (hz : W0.heap[wb.heap.size]? = some (.cells [Value.int .i64 0, Value.int .i64 0, Value.int .i64 0, Value.int .i64 0, Value.int .i64 0, Value.int .i64 0, Value.int .i64 0].toArray 60 (0, 0))) (hk : KNow W0 c m s2 w3) (r : Rc) :
  Beg3 wb c m s2 r wb.heap.size (((((((w3.setCell ⟨wb.heap.size, 0, none⟩ (.int .i64 r.t)).setCell ⟨wb.heap.size, 1, none⟩ (.int .i64 r.k)).setCell ⟨wb.heap.size, 2, none⟩ (.int .i64 r.ta)).setCell ⟨wb.heap.size, 3, none⟩ (.int .i64 r.jb)).setCell ⟨wb.heap.size, 4, none⟩ (.int .i64 r.op)).setCell ⟨wb.heap.size, 5, none⟩ (.int .i64 r.co)).setCell ⟨wb.heap.size, 6, none⟩ (.int .i64 r.va)) := by
 obtain ⟨m3, k3, ek, ej⟩ := hk
 have hX : wb.heap.size < W0.heap.size := zAG hz
 have hXn : ¬ kfp c m wb.heap.size := fun hk => by have := h.klt _ hk; omega
 have hb1 := k3.2.1.heap hz hXn
 have hO : Only (fun k => k = wb.heap.size) w3 (((((((w3.setCell ⟨wb.heap.size, 0, none⟩ (.int .i64 r.t)).setCell ⟨wb.heap.size, 1, none⟩ (.int .i64 r.k)).setCell ⟨wb.heap.size, 2, none⟩ (.int .i64 r.ta)).setCell ⟨wb.heap.size, 3, none⟩ (.int .i64 r.jb)).setCell ⟨wb.heap.size, 4, none⟩ (.int .i64 r.op)).setCell ⟨wb.heap.size, 5, none⟩ (.int .i64 r.co)).setCell ⟨wb.heap.size, 6, none⟩ (.int .i64 r.va)) :=
  (((((((Only.refl (fun k => k = wb.heap.size) w3).setCell (p := ⟨wb.heap.size, 0, none⟩) (fun _ => rfl) _).setCell (p := ⟨wb.heap.size, 1, none⟩) (fun _ => rfl) _).setCell (p := ⟨wb.heap.size, 2, none⟩) (fun _ => rfl) _).setCell (p := ⟨wb.heap.size, 3, none⟩) (fun _ => rfl) _).setCell (p := ⟨wb.heap.size, 4, none⟩) (fun _ => rfl) _).setCell (p := ⟨wb.heap.size, 5, none⟩) (fun _ => rfl) _).setCell (p := ⟨wb.heap.size, 6, none⟩) (fun _ => rfl) _
 exact ⟨⟨m3, k3.loc hX hXn hO h0 (Nat.le_refl _), ek, ej⟩, zAE (zAE (zAE (zAE (zAE (zAE (zAE hb1 0 _) 1 _) 2 _) 3 _) 4 _) 5 _) 6 _, Nat.le_refl _⟩
structure Beg0 (w : World) (c : KC) (m : KM) (s1 : KS) (o : Opn) (Y : Nat) (W : World) : Prop where
 k : ∃ m1, KT w c m W m1 s1 /\ m1.k = m.k /\ m1.js = m.js /\ ¬ kfp c m1 Y
 y : W.heap[Y]? = some (.cells o.cells.toArray 94 (0, 0))
set_option maxHeartbeats 2000000 in
theorem zK1 (h : KAt w c m s) {i q : Nat} {b : Bm} {x : Bj} {e : Et} {o : Opn} (hm : m.js[i]? = some b) (hx : s.jobs[i]? = some x) (he : s.ents[x.p]? = some e) (ho : opOf x.j = some o) (hin : OpIn c o q) (hac : o.k = 2 -> q <= 255)
  (hh : 0 <= e.hi /\ e.hi <= 1000000000000) (hmi : 0 <= e.mi /\ e.mi <= 1000000000000) (htr : s.tr.length <= 1000000000) : Calls Tryz.prog 104 #[ptr m.k, ptr b.b] w (KEnd w c m (begC c s o i x e) (.tuple #[])) := by
 obtain ⟨h1, h2, h3⟩ := h.begun hm hx
 have hop := zh (zJU h2 ho h3.n.1)
 have b0 := zAA h1 (i := 0) rfl
 have bl := zAG h1
 have hlt := (h.lt 0 m.k rfl).1
 have hN1 := zh (fun w1 (hO : Only (fun _ => False) w w1) => show Beg0 w c m s o w1.heap.size (w1.alloc (.cells o.cells.toArray 94)) /\ (w1.alloc (.cells o.cells.toArray 94)).cell? ⟨b.b, 0, none⟩ = some (ptr b.jb) from
  ⟨⟨⟨m, (h.ktNew hO).new ((Only.refl _ _).alloc _), rfl, rfl, fun hk => by have := (h.new hO).klt _ hk; omega⟩, zAB _ _ rfl⟩, zAA (((Only.refl (fun _ => False) w1).alloc _).heap (hO.heap h1 id) id) (i := 0) rfl⟩)
 have hpre := zh (And.intro h (And.intro hm (And.intro hx (And.intro he ho))))
 unfold KEnd
 obtain ⟨Z, hZ⟩ : ∃ Z, Z = KNow w c m (begC c s o i x e) := ⟨_, rfl⟩
 rw [<- hZ]
 have hZ' := zh hZ
 have jDh := zh hin
 obtain ⟨K, A, B⟩ := o
 obtain rfl : A = (q : Int) := hin.a
 unfold ptr Opn.val Opn.cells at *
 dsimp only at hop hN1 hac
 clear h h1 h2 h3 hm hx he ho hin hZ
 go_enter Tryz.func104, Tryz.ntmps104
 go_wp2_with fail
 refine hop.out.mono ?_
 rintro e1 w1 ⟨rfl, hO⟩
 obtain ⟨hB0, c0⟩ := hN1.out w1 hO
 obtain ⟨Y, hY⟩ : ∃ Y, Y = w1.heap.size := ⟨_, rfl⟩
 obtain ⟨W, hW⟩ : ∃ W, W = w1.alloc (.cells #[.int .i64 K, .int .i64 q, .int .i64 B] 94) := ⟨_, rfl⟩
 have hY' := zh hY
 have hW' := zh hW
 have hB : Beg0 w c m s ⟨K, q, B⟩ Y W := by rw [hY, hW]; exact hB0
 clear hB0 hY hW hO hop hN1
 obtain ⟨H, hH⟩ : ∃ H, H = wO c s ⟨K, q, B⟩ := ⟨_, rfl⟩
 have hH' := zh hH
 clear hH
 have hB' := zh hB
 clear hB
 go_upto_region 2 with fail
 rw [<- hW'.out, <- hY'.out]
 go_cut [6] from 19 to 28 (fun v wc => v = .bool H /\ Beg0 w c m (begA c s ⟨K, q, B⟩ x e) ⟨K, q, B⟩ Y wc)
 case first =>
  obtain ⟨⟨m1, k1, ek, ej, hn⟩, hy⟩ := hB'.out
  have y0 := zAA hy (i := 0) rfl
  have y1 := zAA hy (i := 1) rfl
  have yl := zAG hy
  by_cases h2 : K = 2
  ·subst h2
   obtain ⟨h, hm, hx, he, ho⟩ := hpre.out
   have jBn := zh (zIT k1.1 (i := i) (by rw [ej]; exact hm) hx he hh hmi q (hac rfl))
   rw [ek] at jBn
   have jE := zh (fun w2 (hk : KNow W c m1 (accF c s q x.p e) w2) => show Beg0 w c m (begA c s ⟨2, q, B⟩ x e) ⟨2, q, B⟩ Y w2 from by
    obtain ⟨m2, k2, ek2, ej2⟩ := hk
    refine ⟨⟨m2, ?_, ek2.trans ek, ej2.trans ej, fun hh => ?_⟩, ?_⟩
    ·have : begA c s ⟨2, q, B⟩ x e = accF c s q x.p e := by unfold begA; rw [if_pos rfl]; rfl
     rw [this]
     exact k1.trans k2
    ·rcases k2.2.2 Y hh with hh | hh
     ·exact hn hh
     ·omega
    ·exact k2.2.1.heap hy hn)
   have hval : H = decide ((q : Int) ∈ s.cg (q % c.s)) := by rw [hH'.out]; simp [wO]
   have hval' := zh hval
   obtain ⟨V, hV⟩ : ∃ V, V = decide ((q : Int) ∈ s.cg (q % c.s)) := ⟨_, rfl⟩
   rw [<- hV] at jBn hval'
   unfold ptr KEnd at jBn
   clear h hm hx he ho k1 ek ej hn hy hval hV
   go_wp2_with fail
   refine jBn.out.mono ?_
   rintro e2 w2 ⟨rfl, hk⟩
   have hk' := zh hk
   clear hk
   go_wp2_with fail
   go_meet
   case rel => exact ⟨by rw [hval'.out], jE.out _ hk'.out⟩
  ·have hk2 : (K == 2) = false := by simpa using h2
   have hA : begA c s ⟨K, q, B⟩ x e = s := by unfold begA; rw [if_neg h2]
   have hH : H = false := by rw [hH'.out]; simp [wO, h2]
   have yS := zh (show Beg0 w c m (begA c s ⟨K, q, B⟩ x e) ⟨K, q, B⟩ Y W by rw [hA]; exact hB'.out)
   have hH2 := zh hH
   clear hA hH k1 ek ej hn hy
   go_wp2_with fail
   go_meet
   case rel => exact ⟨by rw [hH2.out], yS.out⟩
 obtain ⟨rfl, ⟨⟨m1, k1, ek, ej, hn⟩, hy⟩⟩ := hcut
 obtain ⟨h, hm, hx, he, ho⟩ := hpre.out
 obtain ⟨hs1, hs2, e', hs3, hs4⟩ := zMR (c := c) (s := s) ⟨K, q, B⟩ x e
 rw [he] at hs3
 have hs3 : (begA c s ⟨K, q, B⟩ x e).ents[x.p]? = some e' := hs3
 obtain ⟨h4a, h4b⟩ := hs4 he
 have hx1 : (begA c s ⟨K, q, B⟩ x e).jobs[i]? = some x := by rw [hs1]; exact hx
 have hm1 : m1.js[i]? = some b := by rw [ej]; exact hm
 obtain ⟨g1, g2, g3⟩ := k1.1.begun hm1 hx1
 have b0' := zAA g1 (i := 0) rfl
 have rt := k1.1.root
 rw [ek] at rt
 have r4 := zAA rt (i := 4) rfl
 have r5 := zAA rt (i := 5) rfl
 have r6 := zAA rt (i := 6) rfl
 have r7 := zAA rt (i := 7) rfl
 have y0 := zAA hy (i := 0) rfl
 have y1 := zAA hy (i := 1) rfl
 have y2 := zAA hy (i := 2) rfl
 obtain ⟨S, hS⟩ : ∃ S, S = begA c s ⟨K, q, B⟩ x e := ⟨_, rfl⟩
 rw [<- hS] at k1 hx1
 have jBo := zh (fun W0 (h0 : Only (fun _ => False) wc W0) cost => zIR (g2.new h0) ho g3.n.1 cost)
 have jAq := zh (fun W0 => zER ⟨K, q, B⟩ c.s c.w c.h c.mi H W0)
 have jFy := zAG g1
 have hne : b.b ≠ b.jb := by
  intro e
  obtain ⟨v, q1, -⟩ := g2
  rw [<- e, g1] at q1
  simp at q1
 have hnY : Y ≠ b.jb := fun e2 => hn ⟨11, .inr ⟨b, List.mem_of_getElem? hm1, .inr (.inl e2)⟩⟩
 have hnk : m.k ≠ b.jb := fun e2 => k1.1.ap 11 0 (by decide) b.jb (.inr ⟨b, List.mem_of_getElem? hm1, .inr (.inl rfl)⟩) (e2.symm.trans ek.symm)
 have jE := zh (fun W3 w4 (h3 : Only (fun _ => False) wc W3) (hJ : JbAt w4 b.jb b.jo (beginF x.j ⟨K, q, B⟩ (ofZ ⟨K, q, B⟩ c.h c.mi H)).1) (hO : Only (fun k => k = b.jb) W3 w4) => show Beg0 w c m (begB c s ⟨K, q, B⟩ i x e) ⟨K, q, B⟩ Y w4 from by
  have hb := (k1.1.new h3).bjJob hm1 hx1 hJ (zMQ g3 ho (by have := (zHR ⟨K, q, B⟩ c.h c.mi H).2; omega)) hO
  refine ⟨⟨m1, ?_, ek, ej, hn⟩, hO.heap (h3.heap hy id) hnY⟩
  have e1 : begB c s ⟨K, q, B⟩ i x e = { S with jobs := S.jobs.set i { x with j := (beginF x.j ⟨K, q, B⟩ (ofZ ⟨K, q, B⟩ c.h c.mi H)).1 } } := by
   unfold begB
   rw [<- hH'.out, hS, hs1]
  rw [e1]
  exact (k1.new h3).trans hb)
 have jC := zh (fun W3 w4 (h3 : Only (fun _ => False) wc W3) (hO : Only (fun k => k = b.jb) W3 w4) => show w4.cell? ⟨b.b, 0, none⟩ = some (ptr b.jb) /\ w4.cell? ⟨m.k, 4, none⟩ = some (.int .i64 c.s) /\ w4.cell? ⟨m.k, 5, none⟩ = some (.int .i64 c.w) /\ w4.cell? ⟨m.k, 6, none⟩ = some (.int .i64 c.h) /\ w4.cell? ⟨m.k, 7, none⟩ = some (.int .i64 c.mi) /\ w4.cell? ⟨Y, 0, none⟩ = some (.int .i64 K) /\ w4.cell? ⟨Y, 1, none⟩ = some (.int .i64 q) /\ w4.cell? ⟨Y, 2, none⟩ = some (.int .i64 B) from by
  have q1 := hO.heap (h3.heap g1 id) hne
  have q2 := hO.heap (h3.heap rt id) hnk
  have q3 := hO.heap (h3.heap hy id) hnY
  exact ⟨zAA q1 (i := 0) rfl, zAA q2 (i := 4) rfl, zAA q2 (i := 5) rfl, zAA q2 (i := 6) rfl, zAA q2 (i := 7) rfl, zAA q3 (i := 0) rfl, zAA q3 (i := 1) rfl, zAA q3 (i := 2) rfl⟩)
 unfold Opn.val at jAq
 unfold ptr at *
 dsimp only at jAq y0 y1 y2
 obtain ⟨cost, jAr⟩ : ∃ cost, cost = ofZ ⟨K, q, B⟩ c.h c.mi H := ⟨_, rfl⟩
 rw [<- jAr] at jAq jE
 obtain ⟨sB, hsB⟩ : ∃ sB, sB = begB c s ⟨K, q, B⟩ i x e := ⟨_, rfl⟩
 rw [<- hsB] at jE
 have jAs := zh hsB
 have jCm := zh (And.intro h4a (And.intro h4b (And.intro hs2 hs3)))
 clear hsB jAr hS h hm hx he ho hs1 hs2 hs3 hs4 h4a h4b hx1 g1 g2 g3 rt hn hy c0 hB' k1 ek ej hm1
 go_upto_region 3 with fail
 go_cut [] from 29 to 40 (fun wc => Beg0 w c m sB ⟨K, q, B⟩ Y wc)
 case first =>
  go_region_held3 (fun W' => W'.cell? ⟨b.b, 0, none⟩ = some (.pointer (some ⟨b.jb, 0, none⟩)) /\ W'.cell? ⟨m.k, 4, none⟩ = some (.int .i64 c.s) /\ W'.cell? ⟨m.k, 5, none⟩ = some (.int .i64 c.w) /\ W'.cell? ⟨m.k, 6, none⟩ = some (.int .i64 c.h) /\ W'.cell? ⟨m.k, 7, none⟩ = some (.int .i64 c.mi) /\ W'.cell? ⟨Y, 0, none⟩ = some (.int .i64 K) /\ W'.cell? ⟨Y, 1, none⟩ = some (.int .i64 q) /\ W'.cell? ⟨Y, 2, none⟩ = some (.int .i64 B))
   (first | exact jC.out _ _ (by repeat (first | assumption | exact Only.refl _ _ | apply Only.drew)) (by repeat (first | assumption | exact Only.refl _ _ | apply Only.drew)))
   (first
    | (go_at_call 163; (with_reducible refine (jAq.out _).mono ?_); rintro _ w3 ⟨rfl, ho3⟩; have hO3 := Only.trans' (a := wc) (by repeat (first | assumption | exact Only.refl _ _ | apply Only.drew)) ho3; clear ho3)
    | (go_at_call 162; (with_reducible refine (jBo.out _ (by repeat (first | assumption | exact Only.refl _ _ | apply Only.drew)) _).mono ?_); rintro _ w4 ⟨rfl, hJ4, hO4⟩; have hB4 := zh (fun W9 h3 hO => jE.out W9 w4 h3 hJ4 hO); clear hJ4))
  all_goals
   go_wp2
   go_meet
   case rel => exact hB4.out _ (by repeat (first | assumption | exact Only.refl _ _ | apply Only.drew)) (by repeat (first | assumption | exact Only.refl _ _ | apply Only.drew))
 obtain ⟨⟨m2, k2, ek2, ej2, hn2⟩, hy2⟩ := hcut
 clear jE jC jAq jBo b0' r4 r5 r6 r7 y0 y1 y2 hne hnY hnk jFy
 obtain ⟨wb, hwb⟩ : ∃ wb, wb = wc := ⟨_, rfl⟩
 have hm2 : m2.js[i]? = some b := by rw [ej2]; exact hpre.out.2.1
 have hsx : sB.jobs[i]? = some { x with j := (beginF x.j ⟨K, q, B⟩ (ofZ ⟨K, q, B⟩ c.h c.mi (wO c s ⟨K, q, B⟩))).1 } := by
  rw [jAs.out]
  unfold begB
  exact List.getElem?_set_self (List.getElem?_eq_some_iff.1 hpre.out.2.2.1).1
 obtain ⟨g1, -, -⟩ := k2.1.begun hm2 hsx
 have b1' := zAA g1 (i := 1) rfl
 have y0 := zAA hy2 (i := 0) rfl
 have y1 := zAA hy2 (i := 1) rfl
 have y2 := zAA hy2 (i := 2) rfl
 dsimp only at y0 y1 y2 b1'
 have jC := zh (fun W0 (h0 : Only (fun _ => False) wc W0) => show W0.cell? ⟨b.b, 1, none⟩ = some (.int .i64 x.p) /\ W0.cell? ⟨Y, 0, none⟩ = some (.int .i64 K) /\ W0.cell? ⟨Y, 1, none⟩ = some (.int .i64 q) /\ W0.cell? ⟨Y, 2, none⟩ = some (.int .i64 B) from by
  have q1 := h0.heap g1 id
  have q3 := h0.heap hy2 id
  exact ⟨zAA q1 (i := 1) rfl, zAA q3 (i := 0) rfl, zAA q3 (i := 1) rfl, zAA q3 (i := 2) rfl⟩)
 by_cases jG : callK K = true
 ·obtain ⟨O, hOe⟩ : ∃ O, O = opF c sB ⟨K, q, B⟩ x.p := ⟨_, rfl⟩
  obtain ⟨o1, o2, o3⟩ := zPA (c := c) (s := sB) ⟨K, q, B⟩ x.p
  rw [<- hOe] at o1 o2 o3
  have hca := zh (fun W0 (h0 : Only (fun _ => False) wc W0) => zO7 (k2.1.new h0) jDh.out jG x.p)
  rw [<- hOe, ek2] at hca
  have hA := zh (fun W0 w3 (h0 : Only (fun _ => False) wc W0) (hk : KNow W0 c m2 O.1 w3) => zTE h0 hk ⟨0, 8, 0, 0, K, O.2.1, O.2.2⟩)
  have hB := zh (fun W0 w3 (hk : KNow W0 c m2 O.1 w3) (h0 : Only (fun _ => False) wc W0) (hz : W0.heap[wc.heap.size]? = _) => zTF k2.1 h0 hz hk ⟨0, 8, 0, 0, K, O.2.1, O.2.2⟩)
  have vW := zh (fun W0 w3 W9 (h0 : Only (fun _ => False) wc W0) (hk : KNow W0 c m2 O.1 w3) (h9 : Only (fun k => wc.heap.size <= k) w3 W9) => show W9.cell? ⟨b.b, 1, none⟩ = some (.int .i64 x.p) /\ W9.cell? ⟨Y, 0, none⟩ = some (.int .i64 K) /\ W9.cell? ⟨Y, 1, none⟩ = some (.int .i64 q) /\ W9.cell? ⟨Y, 2, none⟩ = some (.int .i64 B) from by
   obtain ⟨m3, k3, ek3, ej3⟩ := hk
   have hx3 := hsx
   rw [<- o1] at hx3
   obtain ⟨q1, -, -⟩ := k3.1.begun (by rw [ej3]; exact hm2) hx3
   have l1 := zAG g1
   have l2 := zAG hy2
   have q1' := h9.heap q1 (by omega)
   have q3' := h9.heap (k3.2.1.heap (h0.heap hy2 id) hn2) (by omega)
   exact ⟨zAA q1' (i := 1) rfl, zAA q3' (i := 0) rfl, zAA q3' (i := 1) rfl, zAA q3' (i := 2) rfl⟩)
  have hz := zh (fun W0 w3 (hk : KNow W0 c m2 O.1 w3) (hn : W0.heap[wc.heap.size]? = some (.cells [Value.int .i64 0, Value.int .i64 0, Value.int .i64 0, Value.int .i64 0, Value.int .i64 0, Value.int .i64 0, Value.int .i64 0].toArray 60 (0, 0))) => newZ (S := kfp c m2) (w1 := w3) (by obtain ⟨m3, k3, -⟩ := hk; exact k3.2.1) hn (fun hh => by have := k2.1.klt _ hh; omega))
  have hjs := zh (And.intro o1 (And.intro o2 o3))
  obtain ⟨O1, P1, P2⟩ := O
  unfold ptr Opn.val Rc.val KEnd at hca
  unfold Rc.cells at hA
  dsimp only at hca hA hB vW hz
  have jFz := zh hOe
  have kR := zh jG
  have hk2 := zh (And.intro k2 (And.intro hm2 hsx))
  clear k2 hy2 hsx hm2 g1 hn2 jG hOe o1 o2 o3
  go_upto_region 4 with fail
  go_cut [7, 8] from 41 to 52 (fun v7 v8 wd => v8 = .bool true /\ ∃ T, v7 = .pointer (some ⟨T, 0, none⟩) /\ Beg3 wb c m2 O1 ⟨0, 8, 0, 0, K, P1, P2⟩ T wd)
  case first =>
   subst hwb
   go_region_held3 (fun W' => W'.cell? ⟨b.b, 1, none⟩ = some (.int .i64 x.p) /\ W'.cell? ⟨Y, 0, none⟩ = some (.int .i64 K) /\ W'.cell? ⟨Y, 1, none⟩ = some (.int .i64 q) /\ W'.cell? ⟨Y, 2, none⟩ = some (.int .i64 B))
    (first | exact hkp.out _ (by repeat (first | with_reducible assumption | with_reducible exact Only.refl _ _ | with_reducible refine Only.setCell ?_ (p := ⟨_, _, none⟩) (fun _ => by first | exact Nat.le_refl _ | (dsimp only; omega)) _ | with_reducible apply Only.drew | with_reducible apply Only.alloc)) | exact jC.out _ (by repeat (first | with_reducible exact Only.refl _ _ | with_reducible apply Only.drew | with_reducible apply Only.alloc)))
    (first
     | (go_at_call 164; (with_reducible refine (hca.out _ (by repeat (first | with_reducible exact Only.refl _ _ | with_reducible apply Only.drew | with_reducible apply Only.alloc))).mono ?_); rintro _ w3 ⟨rfl, hk⟩; have hkp := zh (fun W9 h9 => vW.out _ w3 W9 (by repeat (first | with_reducible exact Only.refl _ _ | with_reducible apply Only.drew | with_reducible apply Only.alloc)) hk h9); (first | (obtain ⟨z0, z1, z2, z3, z4, z5, z6, f0, f1, f2, f3, f4, f5, f6, zl⟩ := hz.out _ _ hk (zAB _ _ rfl); have hX := zh (hB.out _ w3 hk (by repeat (first | with_reducible exact Only.refl _ _ | with_reducible apply Only.drew | with_reducible apply Only.alloc)) (zAB _ _ rfl))) | (have hX := zh (hA.out _ w3 (by repeat (first | with_reducible exact Only.refl _ _ | with_reducible apply Only.drew | with_reducible apply Only.alloc)) hk))); clear hk))
   all_goals
    go_wp2
    go_meet
    case rel => exact ⟨rfl, _, rfl, hX.out⟩
  obtain ⟨rfl, T, rfl, ⟨⟨m3, k3, ek3, ej3⟩, hTy, hTn⟩⟩ := hcut
  obtain ⟨k2, hm2, hsx⟩ := hk2.out
  rw [<- hwb] at k2
  obtain ⟨o1, o2, o3⟩ := hjs.out
  dsimp only at o1 o2 o3
  obtain ⟨h4a, h4b, hs2, hs3⟩ := jCm.out
  have eT : O1.tr.length <= 1000000000 := by
   rw [o2, jAs.out, show (begB c s ⟨K, q, B⟩ i x e).tr = (begA c s ⟨K, q, B⟩ x e).tr from rfl, hs2]
   exact htr
  have eE : O1.ents[x.p]? = some e' := by
   rw [o3, jAs.out, show (begB c s ⟨K, q, B⟩ i x e).ents = (begA c s ⟨K, q, B⟩ x e).ents from rfl]
   exact hs3
  have hx3 := hsx
  rw [<- o1] at hx3
  obtain ⟨q1, -, -⟩ := k3.1.begun (by rw [ej3]; exact hm2) hx3
  have jCn := zAA q1 (i := 1) rfl
  have t0 := zAA hTy (i := 0) rfl
  have t1 := zAA hTy (i := 1) rfl
  have t2 := zAA hTy (i := 2) rfl
  have t3 := zAA hTy (i := 3) rfl
  have t4 := zAA hTy (i := 4) rfl
  have t5 := zAA hTy (i := 5) rfl
  have t6 := zAA hTy (i := 6) rfl
  have k9 := k2.trans k3
  have ek9 : m3.k = m.k := ek3.trans ek2
  have ej9 : m3.js = m.js := ej3.trans ej2
  have jX := zh (fun nq => zDI (k9.1.new ((Only.refl (fun _ => False) wc).drewN nq)) eT eE ⟨0, 8, 0, 0, K, P1, P2⟩)
  rw [ek9] at jX
  have jE := zh (fun nq w9 (hk : KNow (wc.drewN nq) c m3 (vD O1 e'.ta e'.jb ⟨0, 8, 0, 0, K, P1, P2⟩) w9) => show Z w9 from by
   rw [hZ'.out]
   have e1 : begC c s ⟨K, q, B⟩ i x e = vD O1 e'.ta e'.jb ⟨0, 8, 0, 0, K, P1, P2⟩ := by
    unfold begC
    rw [if_pos kR.out, <- jAs.out, <- jFz.out, h4a, h4b]
   rw [e1]
   obtain ⟨m4, k4, e4, f4⟩ := hk
   exact ⟨m4, (k9.new ((Only.refl (fun _ => False) wc).drewN nq)).trans k4, e4.trans ek9, f4.trans ej9⟩)
  unfold ptr Rc.val KEnd at jX
  dsimp only at jX jCn t0 t1 t2 t3 t4 t5 t6
  clear jC vW hz hA hB hca b1' y0 y1 y2 k9 k3 k2 hTy hTn hm2 hsx hx3 q1 eT eE o1 o2 o3 h4a h4b hs2 hs3
  go_upto_region 6 with fail
  refine zAD 6 (by kernel_rfl) (by kernel_rfl) ?_
  simp only [List.take_succ_cons, List.take_zero, List.drop_succ_cons, List.drop_zero]
  repeat (go_big_quiet_step (fail))
  refine wpQuiet_nil ?_
  rintro _ ⟨nq, rfl⟩
  go_wp2_with fail
  refine (jX.out nq).mono ?_
  rintro e9 w9 ⟨rfl, hk9⟩
  have zO := zh hk9
  clear hk9
  go_wp2
  go_end0
  exact ⟨rfl, jE.out _ _ zO.out⟩
 ·have kR : callK K = false := by simpa using jG
  have hcn := zh (fun W0 => zMN ⟨K, q, B⟩ kR m.k x.p W0)
  have jE := zh (fun W0 (h0 : Only (fun _ => False) wc W0) => show Z W0 from by
   rw [hZ'.out]
   refine ⟨m2, ?_, ek2, ej2⟩
   have : begC c s ⟨K, q, B⟩ i x e = sB := by unfold begC; rw [if_neg jG, jAs.out]
   rw [this]
   exact k2.new h0)
  have hz := zh (fun W0 w1 (hO : Only (fun _ => False) W0 w1) (hn : W0.heap[wb.heap.size]? = some (.cells [Value.int .i64 0, Value.int .i64 0, Value.int .i64 0, Value.int .i64 0, Value.int .i64 0, Value.int .i64 0, Value.int .i64 0].toArray 60 (0, 0))) => newZ hO hn)
  unfold ptr Opn.val zrc Rc.val at hcn
  dsimp only at hcn
  clear k2 hy2 hsx hm2 g1 hn2 jG kR
  go_upto_region 4 with fail
  go_cut [7, 8] from 41 to 52 (fun v7 v8 wd => v8 = .bool false /\ Only (fun _ => False) wb wd)
  case first =>
   subst hwb
   go_region_held3 (fun W' => W'.cell? ⟨b.b, 1, none⟩ = some (.int .i64 x.p) /\ W'.cell? ⟨Y, 0, none⟩ = some (.int .i64 K) /\ W'.cell? ⟨Y, 1, none⟩ = some (.int .i64 q) /\ W'.cell? ⟨Y, 2, none⟩ = some (.int .i64 B))
    (exact jC.out _ (by repeat (first | with_reducible assumption | with_reducible exact Only.refl _ _ | with_reducible refine Only.setCell ?_ (p := ⟨_, _, none⟩) (fun hlt => absurd hlt (by first | exact Nat.lt_irrefl _ | (dsimp only; omega))) _ | with_reducible apply Only.drew | with_reducible apply Only.alloc)))
    (first
     | (go_at_call 164; (with_reducible refine (hcn.out _).mono ?_); rintro _ w3 ⟨rfl, ho3⟩; (first | (obtain ⟨z0, z1, z2, z3, z4, z5, z6, f0, f1, f2, f3, f4, f5, f6, zl⟩ := hz.out _ _ ho3 (zAB _ _ rfl)) | skip); have hO3 := Only.trans' (a := wb) (by repeat (first | exact Only.refl _ _ | apply Only.drew | apply Only.alloc)) ho3; clear ho3))
   all_goals
    go_wp2
    go_meet
    case rel => exact ⟨rfl, (by repeat (first | with_reducible assumption | with_reducible exact Only.refl _ _ | with_reducible refine Only.setCell ?_ (p := ⟨_, _, none⟩) (fun hlt => absurd hlt (by first | exact Nat.lt_irrefl _ | (dsimp only; omega))) _ | with_reducible apply Only.drew | with_reducible apply Only.alloc))⟩
  obtain ⟨rfl, hO5⟩ := hcut
  rw [<- hwb] at jE
  have jF0 := zh hO5
  clear hO5 jC hz hcn b1' y0 y1 y2
  go_wp2_with fail
  go_end0
  exact ⟨rfl, jE.out _ jF0.out⟩
end
