import Derived.Test.YtlbdjiiddofkgaaGreatDoorC29
import Derived.DeepKeys4
import Derived.Maps.Keyed
set_option maxRecDepth 100000
namespace Go.Proofs.YtlbdjiiddofkgaaGreatDoor
namespace Krn
open Go Go.RowKit Go.Maps Ring Band
section
variable {w w' : World} {c : KC} {m : KM} {s : KS}
theorem KAt.entry (h : KAt w c m s) {p : Nat} {x : Et} (hx : s.ents[p]? = some x) : ∃ g off cap n, m.oe = some g /\ m.ve = .slice (some ⟨g, off, none⟩) n cap /\ n = s.ents.length /\ p < n /\ g < w.heap.size /\ g ≠ m.k /\ w.cell? ⟨m.k, 17, none⟩ = some (.slice (some ⟨g, off, none⟩) n cap) /\ (∀ j u, x.cells[j]? = some u -> w.cell? ⟨g, off + p * 13 + j, none⟩ = some u) /\ ∀ k, w.frozen? ⟨g, k, none⟩ = false := by
 obtain ⟨g, off, cap, h1, h2, h3, h4, h5, h6, h7, h8⟩ := zBG zFH (show Win w 146 13 m.ve m.oe s.ents.length (rowC Et.cells s.ents) from h.p 14) hx
 refine ⟨g, off, cap, _, h1, h2, rfl, h5, h6, fun e => h.ap 14 0 (by decide) g h1 e, ?_, h7, h8⟩
 rw [<- h2]
 exact zAA h.root (i := 17) rfl
theorem zDI (h : KAt w c m s) (hn : s.tr.length <= 1000000000) {p : Nat} {x : Et} (hx : s.ents[p]? = some x) (r : Rc) : Calls Tryz.prog 165 #[ptr m.k, .int .i64 p, r.val] w (KEnd w c m (vD s x.ta x.jb r) (.tuple #[])) := by
 have hr := zh (fun W (hW : Only (fun _ => False) w W) => show Calls Tryz.prog 210 #[ptr m.k, .int .i64 x.ta, .int .i64 x.jb, r.val] W (KEnd w c m (vD s x.ta x.jb r) (.tuple #[])) from (zDT (h.new hW) hn x.ta x.jb r).mono (fun e w2 ⟨he, q⟩ => ⟨he, q.back hW⟩))
 obtain ⟨g, off, cap, n, -, -, hnn, hp, hg, hgk, c17, hc, hf⟩ := h.entry hx
 have e0 := hc 0 _ rfl
 have e1 := hc 1 _ rfl
 have hlt := (h.lt 0 m.k rfl).1
 obtain ⟨k, hk⟩ : ∃ k, k = m.k := ⟨_, rfl⟩
 obtain ⟨a, ha⟩ : ∃ a, a = x.ta := ⟨_, rfl⟩
 obtain ⟨b, hb⟩ : ∃ b, b = x.jb := ⟨_, rfl⟩
 obtain ⟨q, hq⟩ : ∃ q, q = off + p * 13 := ⟨_, rfl⟩
 unfold ptr at *
 rw [<- hk] at c17 hlt hr ⊢
 rw [<- ha] at e0 hr ⊢
 rw [<- hb] at e1 hr ⊢
 rw [Nat.add_zero] at e0
 unfold KEnd at *
 obtain ⟨R, hR⟩ : ∃ R, R = KNow w c m (vD s a b r) := ⟨_, rfl⟩
 rw [<- hR] at hr ⊢
 obtain ⟨t0, k0, ta0, jb0, op, co, va⟩ := r
 unfold Rc.val at *
 clear h hx hc hf hk ha hb hR hnn hn hgk
 go_enter Tryz.func165, Tryz.ntmps165
 go_upto_region 2 with fail
 obtain ⟨W1, hW1⟩ : ∃ W1, W1 = w.alloc (.cells #[.int .i64 t0, .int .i64 k0, .int .i64 ta0, .int .i64 jb0, .int .i64 op, .int .i64 co, .int .i64 va] 60) := ⟨_, rfl⟩
 obtain ⟨X, hX⟩ : ∃ X, X = w.heap.size := ⟨_, rfl⟩
 have hXc : W1.heap[X]? = some (.cells (Rc.cells ⟨t0, k0, ta0, jb0, op, co, va⟩).toArray 60 (0, 0)) := by rw [hW1]; exact zAB w (.cells (Rc.cells ⟨t0, k0, ta0, jb0, op, co, va⟩).toArray 60) hX.symm
 have hO1 : Only (fun _ => False) w W1 := by rw [hW1]; exact (Only.refl _ w).alloc _
 rw [<- hX, <- hW1]
 have d0 := zAA hXc (i := 0) rfl
 have d1 := zAA hXc (i := 1) rfl
 have d2 := zAA hXc (i := 2) rfl
 have d3 := zAA hXc (i := 3) rfl
 have d4 := zAA hXc (i := 4) rfl
 have d5 := zAA hXc (i := 5) rfl
 have d6 := zAA hXc (i := 6) rfl
 have jFu := zAG hXc
 have e0' := hO1.cell e0 id
 have e1' := hO1.cell e1 id
 have vB := zh hO1
 clear c17 e0 e1 hlt hXc hO1 hX hW1
 refine zAD 12 (by kernel_rfl) (by kernel_rfl) ?_
 simp only [List.take_succ_cons, List.take_zero, List.drop_succ_cons, List.drop_zero]
 repeat (go_big_quiet_step (fail))
 refine wpQuiet_nil ?_
 rintro _ ⟨nq, rfl⟩
 go_wp2_with fail
 refine (hr.out _ (vB.out.drewN nq)).mono ?_
 rintro e W2 ⟨rfl, hR2⟩
 go_wp2
 go_end0
 exact ⟨rfl, hR2⟩
theorem zIS (w : World) (x : Jb) : Calls Tryz.prog 211 #[x.val] w (GrowV (jM x).val w) := by
 obtain ⟨t, n, r⟩ := x
 unfold Jb.val jM Et.val
 go_enter Tryz.func211, Tryz.ntmps211
 go_wp2
 exact bodyPost_ret (v := .agg #[.int .i64 t, .int .i64 n, .int .i64 r, .int .i64 (-1), .int .i64 (-1), .bool false, .int .i64 0, .int .i64 0, .int .i64 0, .int .i64 0, .int .i64 (-1), .int .i64 0, .int .i64 0]) (by simp [results, Tryz.results211, go_sem]) rfl ⟨rfl, ((Only.refl _ w).alloc _).alloc _⟩
def topV (js : List Bm) : Value := match js.getLast? with
 | none => .pointer none
 | some b => ptr b.b
theorem KAt.jlen (h : KAt w c m s) : m.js.length = s.jobs.length := (h.p 11).2.1.1
theorem zB5 (h : KAt w c m s) : Calls Tryz.prog 67 #[ptr m.k] w (DrewV (topV m.js) w) := by
 have hl := h.jlen
 have c14 := zAA h.root (i := 14) rfl
 have hlt := (h.lt 0 m.k rfl).1
 have hW : Win w 141 1 m.vj m.oj s.jobs.length (rowC bmV m.js) := (h.p 11).1
 obtain ⟨k, hk⟩ : ∃ k, k = m.k := ⟨_, rfl⟩
 unfold ptr
 rw [<- hk] at c14 hlt ⊢
 obtain ⟨p, cap, hv, h1, h2⟩ := hW.form
 obtain ⟨n, hn⟩ : ∃ n, n = s.jobs.length := ⟨_, rfl⟩
 rw [hv, <- hn] at c14
 rw [<- hn] at h1
 by_cases h0 : n = 0
 ·have hz : m.js = [] := List.eq_nil_of_length_eq_zero (by omega)
  have hT : topV m.js = .pointer none := by rw [hz]; rfl
  rw [hT]
  subst h0
  clear h hl hW hk hv hn hz hT
  go_enter Tryz.func67, Tryz.ntmps67
  go_wp2
  go_ret
  exact ⟨rfl, 0, rfl⟩
 ·have hi : n - 1 < m.js.length := by omega
  obtain ⟨b, hb⟩ : ∃ b, m.js[n - 1]? = some b := ⟨_, List.getElem?_eq_getElem hi⟩
  have hT : topV m.js = ptr b.b := by
   unfold topV
   rw [List.getLast?_eq_getElem?, hl, <- hn, hb]
  rw [hT]
  rw [hl.symm] at hW
  obtain ⟨g, off, cap', e1, e2, e3, e4, e5, e6, e7, e8⟩ := zBG (f := bmV) (fun _ => rfl) hW hb
  rw [hv] at e2
  simp only [Value.slice.injEq] at e2
  obtain ⟨rfl, -, rfl⟩ := e2
  have ec := e7 0 _ rfl
  obtain ⟨i, hi'⟩ : ∃ i, i = n - 1 := ⟨_, rfl⟩
  rw [<- hi'] at ec
  have hn1 : IntKind.i64.wrap ((n : Int) - 1) = (i : Int) := by unfold maxLen at h2; rw [IntWalk.i64_in _ (by omega)]; omega
  have hin : i < n := by omega
  have hn0 : ((n : Int) == 0) = false := by simp; omega
  unfold ptr at ec ⊢
  have ec' : w.cell? ⟨g, off + i, none⟩ = some (.pointer (some ⟨b.b, 0, none⟩)) := by simpa using ec
  clear h hl hW hk hv hn hT e1 e3 e5 e7 e8 ec hb hi hi'
  go_enter Tryz.func67, Tryz.ntmps67
  go_wp2
  go_quiet (fail)
  go_wp2
  go_ret
  exact ⟨rfl, _, rfl⟩
end
section
variable {w w' : World} {c : KC} {m : KM} {s : KS}
theorem KAt.task (h : KAt w c m s) {i : Nat} {t : jA} {l : List Opn} (hx : c.ts[i]? = some (t, l)) : ∃ g off cap n, w.cell? ⟨m.k, 8, none⟩ = some (.slice (some ⟨g, off, none⟩) n cap) /\ n = c.ts.length /\ i < n /\ g < w.heap.size /\ foot c m 5 g /\ (∀ j u, t.cells[j]? = some u -> w.cell? ⟨g, off + i * 7 + j, none⟩ = some u) := by
 obtain ⟨g, off, cap, h1, h2, h3, h4, h5, h6, h7, h8⟩ := zBG (f := tkV) (fun _ => rfl) (show Win w 63 7 m.ta.val m.tb c.ts.length (rowC tkV c.ts) from (h.p 5).1) hx
 refine ⟨g, off, cap, _, ?_, rfl, h5, h6, .inl h1, h7⟩
 rw [<- h2]
 exact zAA h.root (i := 8) rfl
theorem KAt.begun (h : KAt w c m s) {i : Nat} {b : Bm} {x : Bj} (hm : m.js[i]? = some b) (hx : s.jobs[i]? = some x) : BjAt w b x := (h.p 11).2.1.2.1 i b x hm hx
theorem KAt.begunFoot (_ : KAt w c m s) {i : Nat} {b : Bm} (hm : m.js[i]? = some b) {k : Nat} (hk : b.fp k) : foot c m 11 k := .inr ⟨b, List.mem_of_getElem? hm, hk⟩
def levF (c : KC) (s : KS) (t : jA) (x : Bj) : Int := if 0 < x.j.regions then 64 else Lck.lev t.th c.ceil (Lck.mine s.lkh s.lkd x.p) c.nl
theorem zKZ (k : Nat) (w : World) : Calls Tryz.prog 68 #[ptr k, .pointer none] w (RetI (-1) w) := by
 unfold ptr
 go_enter Tryz.func68, Tryz.ntmps68
 go_wp2
 go_ret
 exact ⟨rfl, rfl⟩
theorem level_any (h : KAt w c m s) {i tn : Nat} {b : Bm} {x : Bj} {e : Et} {t : jA} {l : List Opn} (hm : m.js[i]? = some b) (hx : s.jobs[i]? = some x) (he : s.ents[x.p]? = some e) (hta : e.ta = tn) (ht : c.ts[tn]? = some (t, l)) (hnl : c.nl <= 4096) :
  Calls Tryz.prog 68 #[ptr m.k, ptr b.b] w (GrowV (.int .i64 (levF c s t x)) w) := by
 obtain ⟨hb, hJ, hOk⟩ := h.begun hm hx
 have hop := zh (zL9 hJ)
 have hlv := zh (fun n => Lck.level_any ((show Lck.LkAt w m.b4 m.g4 c.nl c.ceil s.lkh s.lkd from h.p 4).new ((Only.refl _ w).drewN n)) hnl x.p t.th)
 obtain ⟨g, off, cap, n, -, -, -, hp, hg, -, c17, hc, -⟩ := h.entry he
 obtain ⟨g5, jIq, jIr, n5, c8, -, hp5, hg5, -, hc5⟩ := h.task ht
 have e0 := hc 0 _ rfl
 have t1 := hc5 1 _ rfl
 have c3 := zAA h.root (i := 3) rfl
 have b0 := zAA hb (i := 0) rfl
 have b1 := zAA hb (i := 1) rfl
 have hlt := (h.lt 0 m.k rfl).1
 have hbl := zAG hb
 rw [Nat.add_zero, hta] at e0
 obtain ⟨k, hk⟩ : ∃ k, k = m.k := ⟨_, rfl⟩
 obtain ⟨q, hq⟩ : ∃ q, q = x.p := ⟨_, rfl⟩
 obtain ⟨L, hL⟩ : ∃ L, L = Lck.lev t.th c.ceil (Lck.mine s.lkh s.lkd x.p) c.nl := ⟨_, rfl⟩
 obtain ⟨th, hth⟩ : ∃ th, th = t.th := ⟨_, rfl⟩
 obtain ⟨bb, hbb⟩ : ∃ bb, bb = b.b := ⟨_, rfl⟩
 unfold ptr at *
 unfold levF
 rw [<- hk] at c17 c8 c3 hlt ⊢
 rw [<- hL] at hlv ⊢
 rw [<- hq] at hlv e0 b1 hp hc
 rw [<- hth] at hlv t1
 rw [<- hbb] at b0 b1 hbl ⊢
 by_cases hR : 0 < x.j.regions
 ·rw [decide_eq_true hR] at hop
  rw [if_pos hR]
  clear h hm hx he hta ht hnl hb hJ hOk hc hc5 hk hq hL hth hbb hR hlv
  go_enter Tryz.func68, Tryz.ntmps68
  go_wp2_with fail
  refine hop.out.mono ?_
  rintro e w' ⟨rfl, rfl⟩
  go_wp2
  go_ret
  exact ⟨rfl, Only.refl _ _⟩
 ·rw [decide_eq_false hR] at hop
  rw [if_neg hR]
  clear h hm hx he hta ht hnl hb hJ hOk hc hc5 hk hq hL hth hbb hR
  go_enter Tryz.func68, Tryz.ntmps68
  go_wp2_with fail
  refine hop.out.mono ?_
  rintro e w' ⟨rfl, rfl⟩
  go_wp2_with fail
  go_quiet ((go_at_call 121; exact Calls.quiet_of_same ((hlv.out _).mono fun _ _ ⟨a, b⟩ => ⟨a, b.symm⟩)))
  go_wp2
  go_ret
  exact ⟨rfl, (Only.refl _ w).drewN _⟩
end
section
variable {w w' : World} {c : KC} {m : KM} {s : KS}
theorem KAt.entSet (h : KAt w c m s) {p : Nat} {x y : Et} {j : Nat} {u : Value} (hx : s.ents[p]? = some x) (hj : j < 13) (hy : y.cells = x.cells.set j u) {g off cap n : Nat} (hv : m.ve = .slice (some ⟨g, off, none⟩) n cap) :
  KT w c m (w.setCell ⟨g, off + p * 13 + j, none⟩ u) m { s with ents := s.ents.set p y } := by
 have hW : Win w 146 13 m.ve m.oe s.ents.length (rowC Et.cells s.ents) := h.p 14
 obtain ⟨g', off', cap', h1, h2, -⟩ := zBG zFH hW hx
 rw [hv] at h2
 simp only [Value.slice.injEq, Option.some.injEq, Addr.mk.injEq, and_true] at h2
 obtain ⟨⟨rfl, rfl⟩, rfl, rfl⟩ := h2
 rw [hv] at hW
 have hW' := zJF zFH hW hx hj hy
 refine h.ent_ (l := s.ents.set p y) ?_ ((Only.refl (foot c m 14) w).setCell (p := ⟨g, off + p * 13 + j, none⟩) (fun _ => h1) u)
 rw [hv]
 rw [List.length_set] at hW' ⊢
 exact hW'
def accF (c : KC) (s : KS) (v p : Nat) (e : Et) : KS :=
 { s with cg := Csh.upd s.cg (v % c.s) (Csh.acc c.w (s.cg (v % c.s)) v), ents := s.ents.set p (if (v : Int) ∈ s.cg (v % c.s) then { e with hi := e.hi + 1 } else { e with mi := e.mi + 1 }) }
set_option maxHeartbeats 800000 in
theorem zIT (h : KAt w c m s) {i : Nat} {b : Bm} {x : Bj} {e : Et} (hm : m.js[i]? = some b) (hx : s.jobs[i]? = some x) (he : s.ents[x.p]? = some e) (hh : 0 <= e.hi /\ e.hi <= 1000000000000) (hmi : 0 <= e.mi /\ e.mi <= 1000000000000) (v : Nat) (hv : v <= 255) :
  Calls Tryz.prog 161 #[ptr m.k, ptr b.b, .int .i64 v] w (KEnd w c m (accF c s v x.p e) (.bool (decide ((v : Int) ∈ s.cg (v % c.s))))) := by
 have jBl := zh (Csh.access_any (h.p 13) v hv)
 have hN := zh (fun (w1 : World) (hC : Csh.CacheAt w1 m.r11 m.R11 m.M11 c.s c.w (Csh.upd s.cg (v % c.s) (Csh.acc c.w (s.cg (v % c.s)) v))) (hO : Only (fun k => k = m.R11 ∨ k = m.M11) w w1) => h.csh_ hC (hO.mono (fun _ _ hk => .inr hk)))
 unfold Csh.AccEnd at jBl
 have c10 := zAA h.root (i := 16) rfl
 have hlt := (h.lt 0 m.k rfl).1
 have hm' := zh hm
 have hx' := zh hx
 have he' := zh he
 obtain ⟨k, hk⟩ : ∃ k, k = m.k := ⟨_, rfl⟩
 obtain ⟨bb, hbb⟩ : ∃ bb, bb = b.b := ⟨_, rfl⟩
 unfold ptr at *
 rw [<- hk] at c10 hlt ⊢
 rw [<- hbb]
 have hk' := zh hk
 have jFv := zh hbb
 obtain ⟨hit, jCj⟩ : ∃ hit, hit = decide ((v : Int) ∈ s.cg (v % c.s)) := ⟨_, rfl⟩
 rw [<- jCj] at jBl ⊢
 have jAp := zh jCj
 unfold KEnd
 obtain ⟨Z, hZ⟩ : ∃ Z, Z = KNow w c m (accF c s v x.p e) := ⟨_, rfl⟩
 rw [<- hZ]
 have hZ' := zh hZ
 clear h hm hx he hk hbb jCj hZ
 go_enter Tryz.func161, Tryz.ntmps161
 go_wp2_with fail
 refine jBl.out.mono ?_
 rintro e1 w1 ⟨rfl, hC1, hO1⟩
 have h1 := hN.out w1 hC1 hO1
 have hb := (h1.1.begun hm'.out hx'.out).1
 obtain ⟨g, off, cap, n, hoe, hve, -, hp, hg, -, c17, hc, hf⟩ := h1.1.entry (s := { s with cg := _ }) he'.out
 have e7 := hc 7 _ rfl
 have e8 := hc 8 _ rfl
 have f7 := hf (off + x.p * 13 + 7)
 have f8 := hf (off + x.p * 13 + 8)
 have b1 := zAA hb (i := 1) rfl
 have hbl := zAG hb
 have kD := (h1.1.lt 0 m.k rfl).1
 rw [<- hk'.out] at c17 kD
 rw [<- jFv.out] at b1 hbl
 have hE1 := zh (fun q (hno : (v : Int) ∈ s.cg (v % c.s)) => show Z ((w1.drewN q).setCell ⟨g, off + x.p * 13 + 7, none⟩ (.int .i64 (e.hi + 1))) from by
  rw [hZ'.out]
  refine ⟨m, ?_, rfl, rfl⟩
  unfold accF
  rw [if_pos hno]
  exact (h1.new ((Only.refl (fun _ => False) w1).drewN q)).trans ((h1.new ((Only.refl (fun _ => False) w1).drewN q)).1.entSet (p := x.p) (x := e) (y := { e with hi := e.hi + 1 }) (j := 7) (u := .int .i64 (e.hi + 1)) he'.out (by decide) rfl hve))
 have hE2 := zh (fun q (hno : ¬ (v : Int) ∈ s.cg (v % c.s)) => show Z ((w1.drewN q).setCell ⟨g, off + x.p * 13 + 8, none⟩ (.int .i64 (e.mi + 1))) from by
  rw [hZ'.out]
  refine ⟨m, ?_, rfl, rfl⟩
  unfold accF
  rw [if_neg hno]
  exact (h1.new ((Only.refl (fun _ => False) w1).drewN q)).trans ((h1.new ((Only.refl (fun _ => False) w1).drewN q)).1.entSet (p := x.p) (x := e) (y := { e with mi := e.mi + 1 }) (j := 8) (u := .int .i64 (e.mi + 1)) he'.out (by decide) rfl hve))
 have jDu : IntKind.i64.wrap (e.hi + 1) = e.hi + 1 := IntWalk.i64_in _ (by omega)
 have jCk : IntKind.i64.wrap (e.mi + 1) = e.mi + 1 := IntWalk.i64_in _ (by omega)
 obtain ⟨pp, hpp⟩ : ∃ pp, pp = x.p := ⟨_, rfl⟩
 rw [<- hpp] at e7 e8 f7 f8 b1 hE1 hE2 hp
 clear jBl hN c10 hlt hO1 hC1 h1 hb hoe hve hc hf hpp
 cases hit
 ·have hno := of_decide_eq_false jAp.out.symm
  have jE := zh (fun q => hE2.out q hno)
  clear hno
  go_wp2_with fail
  go_quiet (fail)
  go_wp2
  go_ret
  exact ⟨rfl, jE.out _⟩
 ·have hno := of_decide_eq_true jAp.out.symm
  have jE := zh (fun q => hE1.out q hno)
  clear hno
  go_wp2_with fail
  go_quiet (fail)
  go_wp2
  go_ret
  exact ⟨rfl, jE.out _⟩
end
theorem zJX : Keyed Tryz.prog 178 := Keyed.of_law (deep_law (m := 2) (by omega) (by kernel_rfl) (by kernel_rfl) (by rw [Tryz.underlying178]))
def Jb.fine (x : Jb) : Prop := (-9223372036854775808 <= x.t /\ x.t <= 9223372036854775807) /\ (-9223372036854775808 <= x.n /\ x.n <= 9223372036854775807) /\ (-9223372036854775808 <= x.r /\ x.r <= 9223372036854775807)
theorem zO8 : Tryz.prog.cellsOf 178 = 3 := by kernel_rfl
theorem cells3 : Tryz.prog.cellsOf 3 = 1 := by kernel_rfl
theorem zO9 : Tryz.prog.keyType 178 = true := by kernel_rfl
theorem zMO {P : Program} {k q D : Nat} {fs : Array Field} {t n r : Int} (h1 : P.underlying k = some (.struct fs)) (hf : fs.toList.map (fun f => (f.type, f.offset)) = [(q, 0), (q, 1), (q, 2)]) (ha : fs.all (fun f => f.name != "_") = true) (h2 : P.keyType k = true) (h3 : P.cellsOf k = 3) (h4 : P.cellsOf q = 1) (h5 : P.underlying q = some (.int .i64)) (hD : P.types.size = D + 1)
  (w1 : (Lit.int .i64 t).wf = true) (w2 : (Lit.int .i64 n).wf = true) (w3 : (Lit.int .i64 r).wf = true) : ∃ l, Go.keyOf P k (.agg #[.int .i64 t, .int .i64 n, .int .i64 r]) = some l := by
 obtain ⟨l⟩ := fs
 rcases l with _ | ⟨a, _ | ⟨b, _ | ⟨c, _ | ⟨d, l⟩⟩⟩⟩
 ·simp at hf
 ·simp at hf
 ·simp at hf
 rotate_left
 ·simp at hf
 ·
  simp only [List.map_cons, List.map_nil, List.cons.injEq, Prod.mk.injEq, and_true] at hf
  obtain ⟨⟨e1, e2⟩, ⟨e3, e4⟩, e5, e6⟩ := hf
  have hk : P.keyLits (P.types.size + 1) k (Value.cells (.agg #[.int .i64 t, .int .i64 n, .int .i64 r])).toList = some [.int .i64 t, .int .i64 n, .int .i64 r] := by
   rw [hD]
   simp [Program.keyLits, h1, Value.cells, h3, e1, e2, e3, e4, e5, e6, h4, h5, w1, w2, w3]
   simpa using ha
  have hfm : Value.formed P k (.agg #[.int .i64 t, .int .i64 n, .int .i64 r]) = true := by simp [Value.formed, h1, h3]
  refine ⟨.string (keyBytes [.int .i64 t, .int .i64 n, .int .i64 r]), ?_⟩
  unfold Go.keyOf
  rw [h1]
  simp only [h2, hfm, hk, Bool.and_true, if_true, Option.map_some]
theorem zUC : ∃ D, Tryz.prog.types.size = D + 1 := ⟨Tryz.prog.types.size - 1, by kernel_rfl⟩
theorem zMP {x : Jb} (h : Jb.fine x) : ∃ l, Go.keyOf Tryz.prog 178 x.val = some l := by
 obtain ⟨t, n, r⟩ := x
 obtain ⟨⟨a1, a2⟩, ⟨b1, b2⟩, c1, c2⟩ := h
 obtain ⟨D, hD⟩ := zUC
 exact zMO Tryz.underlying178 rfl (by kernel_rfl) zO9 zO8 cells3 Tryz.underlying3 hD (wfI a1 a2) (wfI b1 b2) (wfI c1 c2)
instance : DecidableEq Jb := fun x y => decidable_of_iff (x.t = y.t /\ x.n = y.n /\ x.r = y.r) (by
 obtain ⟨a, b, c⟩ := x
 obtain ⟨d, e, f⟩ := y
 simp)
theorem zRS {x y : Jb} (h : x.val = y.val) : x = y := by
 obtain ⟨a, b, c⟩ := x
 obtain ⟨d, e, f⟩ := y
 simp [Jb.val] at h
 simp [h]
section
variable {w : World} {b : Nat} {ps : List (Jb × Nat)}
theorem zJY {es : Array MapEntry} {j : Nat} {e : MapEntry} (h : es.toList.map (fun e => (e.key, e.val)) = ps.map fun p => (p.1.val, Value.int .i64 (p.2 : Int))) (he : es.toList[j]? = some e) : ∃ (x : Jb) (p : Nat), ps[j]? = some (x, p) /\ e.key = x.val /\ e.val = .int .i64 (p : Int) := by
 have h1 : (es.toList.map (fun e => (e.key, e.val)))[j]? = some (e.key, e.val) := by rw [List.getElem?_map, he]; rfl
 rw [h, List.getElem?_map] at h1
 cases hp : ps[j]? with
 | none => rw [hp] at h1; simp at h1
 | some q =>
  rw [hp] at h1
  simp only [Option.map_some, Option.some.injEq, Prod.mk.injEq] at h1
  exact ⟨q.1, q.2, rfl, h1.1.symm, h1.2.symm⟩
theorem zIU (hf : ∀ q ∈ ps, Jb.fine q.1) {es : Array MapEntry} (h : es.toList.map (fun e => (e.key, e.val)) = ps.map fun p => (p.1.val, Value.int .i64 (p.2 : Int))) {x : Jb} (hx : Jb.fine x) :
  ((Instr.findKey 178 x.val es.toList).run Tryz.prog w = .ok none w /\ ∀ q ∈ ps, q.1 ≠ x) ∨ ∃ (j p : Nat), ps[j]? = some (x, p) /\ (Instr.findKey 178 x.val es.toList).run Tryz.prog w = .ok (some (j, .int .i64 (p : Int))) w := by
 obtain ⟨l, hl⟩ := zMP hx
 have hk : ∀ e ∈ es.toList, ∃ l, Go.keyOf Tryz.prog 178 e.key = some l := fun e he => by
  obtain ⟨j, hj⟩ := List.mem_iff_getElem?.1 he
  obtain ⟨y, p, h1, h2, h3⟩ := zJY h hj
  rw [h2]
  exact zMP (hf _ (List.mem_of_getElem? h1))
 rcases zJX.find w hl es.toList hk with ⟨h1, h2⟩ | ⟨j, e, h1, h2, h3⟩
 ·refine .inl ⟨h1, fun q hq e => ?_⟩
  obtain ⟨j, hj⟩ := List.mem_iff_getElem?.1 hq
  have h4 : (es.toList.map (fun e => (e.key, e.val)))[j]? = some (q.1.val, Value.int .i64 (q.2 : Int)) := by rw [h, List.getElem?_map, hj]; rfl
  rw [List.getElem?_map] at h4
  cases he : es.toList[j]? with
  | none => rw [he] at h4; simp at h4
  | some e' =>
   rw [he] at h4
   simp only [Option.map_some, Option.some.injEq, Prod.mk.injEq] at h4
   exact h2 e' (List.mem_of_getElem? he) (by rw [h4.1, e])
 ·obtain ⟨y, p, h4, h5, h6⟩ := zJY h h2
  obtain rfl : y = x := zRS (h5.symm.trans h3)
  exact .inr ⟨j, p, h4, by rw [h1, h6]⟩
theorem zEV {x : Jb} (hx : Jb.fine x) (em : Bool) : (Instr.checkKey em 10000 178 x.val).run Tryz.prog w = .ok () w := by
 obtain ⟨l, hl⟩ := zMP hx
 exact zJX.check w em hl
theorem zFI (w : World) (b : Nat) (o : Obj) : Only (fun k => k = b) w (ChangeMaps.setBlock w b o) := by
 refine ⟨rfl, rfl, rfl, ?_, fun k hk hne => ?_⟩
 ·simp [ChangeMaps.setBlock]
 ·have : ¬ b = k := fun e => hne e.symm
  simp [ChangeMaps.setBlock, this]
theorem zHN {l : List (Jb × Nat)} (hu : (l.map Prod.fst).Pairwise (· ≠ ·)) {j : Nat} {x : Jb} {p : Nat} (h : l[j]? = some (x, p)) : (l.filter fun q => decide (q.1 ≠ x)) = l.eraseIdx j := by
 induction l generalizing j with
 | nil => simp at h
 | cons y l ih =>
  rw [List.map_cons, List.pairwise_cons] at hu
  cases j with
  | zero =>
   obtain rfl : y = (x, p) := by simpa using h
   rw [List.filter_cons_of_neg (by simp), List.eraseIdx_cons_zero]
   refine List.filter_eq_self.2 fun q hq => ?_
   have := hu.1 q.1 (List.mem_map.2 ⟨q, hq, rfl⟩)
   simpa using fun e => this e.symm
  | succ j =>
   have h' : l[j]? = some (x, p) := by simpa using h
   have hne : y.1 ≠ x := hu.1 x (List.mem_map.2 ⟨_, List.mem_of_getElem? h', rfl⟩)
   rw [List.filter_cons_of_pos (by simpa using hne), List.eraseIdx_cons_succ, ih hu.2 h']
theorem zRT (h : PlAt w b ps) (hf : ∀ q ∈ ps, Jb.fine q.1) {x : Jb} {p : Nat} (hm : (x, p) ∈ ps) (hu : ∀ q ∈ ps, q.1 = x -> q.2 = p) : (Instr.lookup 115 (.map (some b)) x.val false).run Tryz.prog w = .ok (.int .i64 (p : Int)) w := by
 obtain ⟨es, cl, hb, he⟩ := h
 have hx : Jb.fine x := hf _ hm
 rcases zIU (w := w) hf he hx with ⟨h1, h2⟩ | ⟨j, p', h1, h2⟩
 ·exact absurd rfl (h2 _ hm)
 ·obtain rfl : p' = p := hu _ (List.mem_of_getElem? h1) rfl
  simp [Instr.lookup, run_underlying (P := Tryz.prog) Tryz.underlying115, Result.andThen, MapKept.run_getObj_map hb, zEV hx, h2]
theorem zTD (h : PlAt w b ps) (hf : ∀ q ∈ ps, Jb.fine q.1) {x : Jb} (p : Nat) (hx : Jb.fine x) (hn : ∀ q ∈ ps, q.1 ≠ x) : ∃ w', (Instr.mapUpdate 115 (.map (some b)) x.val (.int .i64 (p : Int))).run Tryz.prog w = .ok () w' /\ PlAt w' b (ps ++ [(x, p)]) /\ Only (fun k => k = b) w w' := by
 obtain ⟨es, cl, hb, he⟩ := h
 rcases zIU (w := w) hf he hx with ⟨h1, h2⟩ | ⟨j, p', h1, h2⟩
 ·have hlt := zAG hb
  refine ⟨ChangeMaps.setBlock w b (.map (es.push ⟨x.val, .int .i64 (p : Int), cl⟩) (cl + 1)), ?_, ?_, ?_⟩
  ·simp [Instr.mapUpdate, run_underlying (P := Tryz.prog) Tryz.underlying115, MapKept.run_getObj_map hb, zEV hx, h1, MapKept.run_setObj_map _ hb, Result.andThen, ChangeMaps.setBlock]
  ·exact ⟨_, _, ChangeMaps.heap_setBlock_same hb _, by simp [he]⟩
  ·exact zFI w b _
 ·exact absurd rfl (hn _ (List.mem_of_getElem? h1))
theorem zRU (h : PlAt w b ps) (hf : ∀ q ∈ ps, Jb.fine q.1) {x : Jb} (hu : (ps.map Prod.fst).Pairwise (· ≠ ·)) {p : Nat} (hm : (x, p) ∈ ps) (ty : TypeId) : ∃ w', (Builtin.delete_ #[115, 178] ty #[.map (some b), x.val]).run Tryz.prog w = .ok (.tuple #[]) w' /\ PlAt w' b (ps.filter fun q => decide (q.1 ≠ x)) /\ Only (fun k => k = b) w w' := by
 obtain ⟨es, cl, hb, he⟩ := h
 have hx : Jb.fine x := hf _ hm
 have hlt := zAG hb
 rcases zIU (w := w) hf he hx with ⟨h1, h2⟩ | ⟨j, p', h1, h2⟩
 ·exact absurd rfl (h2 _ hm)
 ·refine ⟨ChangeMaps.setBlock w b (.map (es.eraseIdxIfInBounds j) cl), ?_, ?_, ?_⟩
  ·simp [Builtin.delete_, run_underlying (P := Tryz.prog) Tryz.underlying115, MapKept.run_getObj_map hb, zEV hx, h2, MapKept.run_setObj_map _ hb, Result.andThen, ChangeMaps.setBlock]
  ·refine ⟨_, _, ChangeMaps.heap_setBlock_same hb _, ?_⟩
   have hj : j < ps.length := (List.getElem?_eq_some_iff.1 h1).1
   have hes : es.toList.length = ps.length := by
    have := congrArg List.length he
    simpa using this
   have hje : j < es.size := by rw [<- Array.length_toList, hes]; exact hj
   have jAg : (es.eraseIdxIfInBounds j).toList = es.toList.eraseIdx j := by
    unfold Array.eraseIdxIfInBounds
    rw [dif_pos hje]
    simp
   have hA : List.map (fun e : MapEntry => (e.key, e.val)) (es.eraseIdxIfInBounds j).toList = (ps.map fun p => (p.1.val, Value.int .i64 (p.2 : Int))).eraseIdx j := by rw [jAg, ChangeMaps.map_eraseIdx, he]
   rw [hA, zHN hu h1, ChangeMaps.map_eraseIdx]
  ·exact zFI w b _
end
def relJ (s : KS) (t : Nat) : Jb := ⟨t, s.nx t, s.now⟩
def relA (s : KS) (t : Nat) : KS := { s with nx := upd s.nx t (s.nx t + 1), q := upd s.q t (s.q t ++ [(relJ s t, s.ents.length)]) }
def relB (s : KS) (t : Nat) : KS := { relA s t with ps := s.ps ++ [(relJ s t, s.ents.length)] }
def relC (s : KS) (t : Nat) : KS := { relB s t with ents := s.ents ++ [jM (relJ s t)] }
def relN (s : KS) (t : Nat) : KS := { s with nx := upd s.nx t (s.nx t + 1) }
def relF (s : KS) (t : Nat) : KS :=
 if (s.q t).length < 4 then vD (relC s t) t (s.nx t) ⟨0, 1, 0, 0, 0, 0, 0⟩ else vD (relN s t) t (s.nx t) ⟨0, 2, 0, 0, 0, 7, 0⟩
section
variable {w w' : World} {c : KC} {m : KM} {s : KS}
theorem zP8 (q : Nat -> List (Jb × Nat)) (t : Nat) (l : List (Jb × Nat)) : (fun i => (upd q t l i).map Prod.fst) = upd (fun i => (q i).map Prod.fst) t (l.map Prod.fst) := by
 funext i
 by_cases h : i = t
 ·subst h; rw [upd_self, upd_self]
 ·rw [upd_ne _ _ h, upd_ne _ _ h]
structure Rel0 (w : World) (c : KC) (m : KM) (s1 : KS) (x : Jb) (Y : Nat) (W : World) : Prop where
 k : ∃ m1, KT w c m W m1 s1 /\ m1.k = m.k /\ m1.js = m.js /\ ¬ kfp c m1 Y
 y : W.heap[Y]? = some (.cells x.cells.toArray 178 (0, 0))
theorem zP9 {w0 w1 : World} {s1 : KS} {o' : Nat -> Option Nat} {m' : BitVec 64} {nx : Nat -> Nat} {q' : Nat -> List (Jb × Nat)} (h : KAt w c m s) (hs : s1 = { s with nx := nx, q := q' }) (h0 : Only (fun _ => False) w w0)
  (hR : RdAt w1 m.B m.r7 m.G7 m.s7 m.m7 c.ts.length c.P nx m.ring o' (fun i => (q' i).map Prod.fst) m') (hb : Bits c.ts.length c.P (fun i => (q' i).map Prod.fst) m') (hO : Only (rfp m.r7 m.G7 m.s7 m.m7 c.ts.length m.ring m.o7) w0 w1)
  (hn : ∀ k, rfp m.r7 m.G7 m.s7 m.m7 c.ts.length m.ring o' k -> rfp m.r7 m.G7 m.s7 m.m7 c.ts.length m.ring m.o7 k ∨ w0.heap.size <= k) (x : Jb) :
  Rel0 w c m s1 x w1.heap.size (w1.alloc (.cells x.cells.toArray 178)) := by
 subst hs
 have hk := (h.ktNew h0).trans ((h.new h0).rdy_ (q := q') ⟨hR, hb⟩ hO hn)
 exact ⟨⟨_, hk.new ((Only.refl _ _).alloc _), rfl, rfl, fun hh => by have := hk.1.klt _ hh; omega⟩, zAB _ _ rfl⟩
theorem zQA {w1 : World} {s1 : KS} {o' : Nat -> Option Nat} {m' : BitVec 64} {nx : Nat -> Nat} {q' : Nat -> List (Jb × Nat)} (h : KAt w c m s) (hs : s1 = { s with nx := nx, q := q' })
  (hR : RdAt w1 m.B m.r7 m.G7 m.s7 m.m7 c.ts.length c.P nx m.ring o' (fun i => (q' i).map Prod.fst) m') (hb : Bits c.ts.length c.P (fun i => (q' i).map Prod.fst) m')
  (hO : Only (rfp m.r7 m.G7 m.s7 m.m7 c.ts.length m.ring m.o7) ((w.alloc (.cells #[.int .i64 0, .int .i64 0, .int .i64 0] 178)).drew) w1)
  (hn : ∀ k, rfp m.r7 m.G7 m.s7 m.m7 c.ts.length m.ring o' k -> rfp m.r7 m.G7 m.s7 m.m7 c.ts.length m.ring m.o7 k ∨ ((w.alloc (.cells #[.int .i64 0, .int .i64 0, .int .i64 0] 178)).drew).heap.size <= k) (x : Jb) :
  Rel0 w c m s1 x w.heap.size (((w1.setCell ⟨w.heap.size, 0, none⟩ (.int .i64 x.t)).setCell ⟨w.heap.size, 1, none⟩ (.int .i64 x.n)).setCell ⟨w.heap.size, 2, none⟩ (.int .i64 x.r)) := by
 subst hs
 have h0 : Only (fun _ => False) w ((w.alloc (.cells #[.int .i64 0, .int .i64 0, .int .i64 0] 178)).drew) := ((Only.refl _ w).alloc _).drew
 have hX : w.heap.size < ((w.alloc (.cells #[.int .i64 0, .int .i64 0, .int .i64 0] 178)).drew).heap.size := by show _ < (w.alloc _).heap.size; rw [zAS]; omega
 have hXn : ¬ kfp c m w.heap.size := fun hk => by have := h.klt _ hk; omega
 have hb1 : w1.heap[w.heap.size]? = some (.cells [Value.int .i64 0, .int .i64 0, .int .i64 0].toArray 178 (0, 0)) := hO.heap (zAB w _ rfl) (fun hk => hXn ⟨9, hk⟩)
 have hk1 := (h.new h0).rdy_ (q := q') ⟨hR, hb⟩ hO hn
 exact ⟨⟨_, hk1.loc hX hXn ((((Only.refl (fun k => k = w.heap.size) w1).setCell (p := ⟨w.heap.size, 0, none⟩) (fun _ => rfl) _).setCell (p := ⟨w.heap.size, 1, none⟩) (fun _ => rfl) _).setCell (p := ⟨w.heap.size, 2, none⟩) (fun _ => rfl) _) h0 (Nat.le_refl _), rfl, rfl, hk1.not hX hXn⟩, zAE (zAE (zAE hb1 0 _) 1 _) 2 _⟩
theorem KAt.entAdd (h : KAt w c m s) {x : Et} {v' : Value} {o' : Option Nat} {W w1 : World} (hO : Only (fun _ => False) w W) (hW : Win w1 146 13 v' o' (s.ents.length + 1) (rowC Et.cells s.ents ++ x.cells)) (h1 : Only (fun k => some k = m.oe) W w1) (hh : o' = m.oe ∨ ∃ g, o' = some g /\ W.heap.size <= g) :
  KNow w c m { s with ents := s.ents ++ [x] } (w1.setCell ⟨m.k, 17, none⟩ v') := by
 refine ⟨{ m with ve := v', oe := o' }, h.entr (l := s.ents ++ [x]) hO ?_ (h1.mono (fun x _ e => e.symm)) ?_, rfl, rfl⟩
 ·show Win _ 146 13 v' o' (s.ents ++ [_]).length (rowC Et.cells (s.ents ++ [_]))
  rw [List.length_append, zBY, zFP]
  exact hW
 ·intro x hx
  rcases hh with q | ⟨g, q, hg⟩
  ·exact .inl (q.symm.trans hx)
  ·have e := (show o' = some x from hx)
   rw [q] at e
   cases e
   exact .inr hg
end
