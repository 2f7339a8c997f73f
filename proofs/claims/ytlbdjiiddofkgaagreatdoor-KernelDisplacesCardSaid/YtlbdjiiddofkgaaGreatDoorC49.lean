import Derived.Test.YtlbdjiiddofkgaaGreatDoorC48
set_option maxRecDepth 100000
namespace Go.Proofs.YtlbdjiiddofkgaaGreatDoor
namespace Fin0
open Go Go.RowKit
structure Fine (c : jD) (d : jL) (pl : Tks) : Prop where
 mach : machB c.s c.wy c.h c.mi = true
 many : kQ c = false
 n0 : 0 < c.ta.n
 g0 : 0 <= c.g
 obj : objB c d = true
 task : ∀ (i : Nat) t l, i < c.ta.n -> pl[i]? = some (t, l) -> t.okB = true /\ checkZ l c.room = 0 /\ l.any (lowB d.ce t.p) = false /\ (pl.ts.take i).any (fun u => decide (u.p = t.p)) = false
theorem zC4 {f : Nat -> Int} {n : Nat} (h : firstNZ f n = 0) : ∀ j, j < n -> f j = 0 := by
 induction n with
 | zero => intro j hj; omega
 | succ n ih =>
  unfold firstNZ at h
  by_cases h0 : firstNZ f n ≠ 0
  ·rw [if_pos h0] at h
   exact absurd h h0
  ·rw [if_neg h0] at h
   intro j hj
   by_cases hjn : j = n
   ·subst hjn; exact h
   ·exact ih (Classical.byContradiction h0) j (by omega)
theorem of_zero {c : jD} {d : jL} {pl : Tks} (h : confZ c d pl = 0) : Fine c d pl := by
 unfold confZ at h
 split at h
 ·simp at h
 rename_i h1
 split at h
 ·simp at h
 rename_i h2
 split at h
 ·simp at h
 rename_i h3
 split at h
 ·simp at h
 rename_i h4
 refine ⟨by simpa using h1, by simpa using h2, by omega, by omega, by simpa using h4, fun i t l hi ht => ?_⟩
 have hz := zC4 h i hi
 rw [zB3 ht] at hz
 unfold taskZ at hz
 split at hz
 ·simp at hz
 rename_i h5
 split at hz
 ·rename_i h6; exact absurd hz h6
 rename_i h6
 split at hz
 ·simp at hz
 rename_i h7
 split at hz
 ·simp at hz
 rename_i h8
 exact ⟨by simpa using h5, Classical.byContradiction h6, by simpa using h7, by simpa using h8⟩
theorem inB_in {lo hi z : Int} (h : inB lo hi z = true) : lo <= z /\ z <= hi := by unfold inB at h; simpa using h
theorem Fine.machine {c : jD} {d : jL} {pl : Tks} (h : Fine c d pl) : (1 <= c.s /\ c.s <= 16) /\ (1 <= c.wy /\ c.wy <= 4) /\ (1 <= c.h /\ c.h <= 100) /\ (c.h <= c.mi /\ c.mi <= 100) := by
 have := h.mach
 unfold machB at this
 simp only [Bool.and_eq_true] at this
 exact ⟨inB_in this.1.1.1, inB_in this.1.1.2, inB_in this.1.2, inB_in this.2⟩
theorem Fine.counts {c : jD} {d : jL} {pl : Tks} (h : Fine c d pl) : c.mb.n <= 4 /\ c.g <= 4 /\ c.cn.n <= 4 /\ c.ce.n <= 4 /\ c.ta.n <= 8 /\ c.li.n <= 8 := by
 have := h.many
 unfold kQ at this
 simp at this
 omega
theorem Fine.nums {c : jD} {d : jL} {pl : Tks} (h : Fine c d pl) {i : Nat} {t : jA} {l : List Opn} (hi : i < c.ta.n) (ht : pl[i]? = some (t, l)) :
  (0 <= t.p /\ t.p <= 63) /\ (t.p <= t.th /\ t.th <= 63) /\ (1 <= t.pe /\ t.pe <= 1048576) /\ (1 <= t.de /\ t.de <= t.pe) /\ (0 <= t.fr /\ t.fr <= 4096) /\ (0 <= t.fl /\ t.fl <= 1048576) := by
 have := (h.task i t l hi ht).1
 unfold jA.okB taskB at this
 simp only [Bool.and_eq_true] at this
 exact ⟨inB_in this.1.1.1.1.1, inB_in this.1.1.1.1.2, inB_in this.1.1.1.2, inB_in this.1.1.2, inB_in this.1.2, inB_in this.2⟩
theorem Fine.prog {c : jD} {d : jL} {pl : Tks} (h : Fine c d pl) {i : Nat} {t : jA} {l : List Opn} (hi : i < c.ta.n) (ht : pl[i]? = some (t, l)) : 0 < l.length /\ l.length <= 64 /\ ∀ o ∈ l, opZ o c.room = 0 := by
 have hz := (h.task i t l hi ht).2.1
 refine ⟨?_, ?_, zDP hz⟩
 ·unfold checkZ at hz
  split at hz
  ·simp at hz
  ·omega
 ·unfold checkZ at hz
  split at hz
  ·simp at hz
  ·split at hz
   ·simp at hz
   ·omega
theorem zME {o : Opn} {r : jF} (h : opZ o r = 0) (hk : o.k = 2) : 0 <= o.a /\ o.a <= 255 := by
 obtain ⟨k, a, b⟩ := o
 simp only at hk
 subst hk
 unfold opZ at h
 simp [opV, loA, hiA, hiB, inB] at h
 simp only
 omega
end Fin0
end Go.Proofs.YtlbdjiiddofkgaaGreatDoor
namespace Go.Proofs.YtlbdjiiddofkgaaGreatDoor
namespace Krn
open Go Go.RowKit Go.Maps Ring Band
theorem zUF {c : KC} {o : Opn} {r : jF} (h : opZ o r = 0) (hl : max r.l 0 = (c.nl : Int)) (hb : max r.m 0 = (c.nb : Int)) (hg : max r.g 0 = (c.ng : Int)) (hn : max r.c 0 = (c.nc : Int)) : ∃ q, OpIn c o q /\ (o.k = 2 -> q <= 255) := by
 obtain ⟨k, a, b⟩ := o
 have hk : 1 <= k /\ k <= 15 := by
  unfold opZ at h
  split at h
  ·cases h
  ·dsimp only at *; omega
 have hk' : k = 1 ∨ k = 2 ∨ k = 3 ∨ k = 4 ∨ k = 5 ∨ k = 6 ∨ k = 7 ∨ k = 8 ∨ k = 9 ∨ k = 10 ∨ k = 11 ∨ k = 12 ∨ k = 13 ∨ k = 14 ∨ k = 15 := by omega
 refine ⟨a.toNat, ⟨?_, fun e => ?_, fun e => ?_, fun e => ?_, fun e => ?_⟩, fun e => ?_⟩
 all_goals
  clear hk
  rcases hk' with rfl | rfl | rfl | rfl | rfl | rfl | rfl | rfl | rfl | rfl | rfl | rfl | rfl | rfl | rfl
  all_goals
   simp [opZ, opV, loA, hiA, hiB, inB] at h
   dsimp only at *
   omega
theorem zNP {lo hi : Int} {l : List Int} (h : allIn lo hi l = true) {z : Int} (hz : z ∈ l) : lo <= z /\ z <= hi := Fin0.inB_in (List.all_eq_true.1 h z hz)
theorem zTP {c : jD} {d : jL} {pl : Tks} {us : List (jA × List Opn)} {mo : Nat -> Nat} (hf : Fin0.Fine c d pl) (hpl : pl.length = c.ta.n) (hs : SameT us pl) : CfgOk (kc c d pl us mo) := by
 obtain ⟨c1, c2, c3, c4, c5, c6⟩ := hf.counts
 have hul : us.length = c.ta.n := hs.1.trans hpl
 refine ⟨?_, ?_, fun i z hz => ?_, fun t u ht hu e => ?_, fun t tv ops ht => ?_⟩
 ·show us.length <= 64
  omega
 ·show c.ce.n <= 4096
  omega
 ·have ho := hf.obj
  unfold objB at ho
  simp only [Bool.and_eq_true] at ho
  have hz' := zNP ho.2 (List.mem_of_getElem? (show d.li[i]? = some z from hz))
  refine ⟨z.toNat, by omega, ?_⟩
  show z.toNat < us.length
  omega
 ·have ht' : t < us.length := ht
  have hu' : u < us.length := hu
  have e' : pN pl.ts t = pN pl.ts u := e
  have key : ∀ a b, a < b -> b < us.length -> pN pl.ts a = pN pl.ts b -> False := by
   intro a b hab hb hP
   obtain ⟨⟨ta, la⟩, ha'⟩ : ∃ y, pl[a]? = some y := ⟨_, List.getElem?_eq_getElem (by omega)⟩
   obtain ⟨⟨tb, lb⟩, hb'⟩ : ∃ y, pl[b]? = some y := ⟨_, List.getElem?_eq_getElem (by omega)⟩
   have hta : pl.ts[a]? = some ta := by unfold Tks.ts; rw [List.getElem?_map, ha']; rfl
   have htb : pl.ts[b]? = some tb := by unfold Tks.ts; rw [List.getElem?_map, hb']; rfl
   rw [zHJ hta, zHJ htb] at hP
   have h1 := (hf.nums (by omega) ha').1
   have h2 := (hf.nums (by omega) hb').1
   have h3 := (hf.task b tb lb (by omega) hb').2.2.2
   rw [List.any_eq_false] at h3
   refine h3 ta ?_ (decide_eq_true (by omega))
   exact List.mem_of_getElem? (i := a) (by rw [List.getElem?_take, if_pos hab]; exact hta)
  rcases Nat.lt_trichotomy t u with h | h | h
  ·exact (key t u h hu' e').elim
  ·exact h
  ·exact (key u t h ht' e'.symm).elim
 ·have ht' : us[t]? = some (tv, ops) := ht
  have hlt := (List.getElem?_eq_some_iff.1 ht').1
  obtain ⟨⟨t0, l⟩, hp⟩ : ∃ y, pl[t]? = some y := ⟨_, List.getElem?_eq_getElem (by omega)⟩
  obtain ⟨o, ho⟩ := hs.2 t t0 l hp
  rw [ht'] at ho
  cases ho
  obtain ⟨n1, n2, n3, n4, n5, n6⟩ := hf.nums (by omega) hp
  obtain ⟨p1, p2, p3⟩ := hf.prog (by omega) hp
  have hP : (kc c d pl us mo).P t = t0.p.toNat := zHJ (by unfold Tks.ts; rw [List.getElem?_map, hp]; rfl)
  refine ⟨n5, n6, ⟨p1, by omega⟩, fun o ho => zUF (p3 o ho) ?_ ?_ ?_ ?_, ?_⟩
  ·show max (c.ce.n : Int) 0 = (c.ce.n : Int); omega
  ·show max (c.mb.n : Int) 0 = (c.mb.n : Int); omega
  ·show max c.g 0 = ((Flg.manyN c.g : Nat) : Int); have := hf.g0; unfold Flg.manyN; omega
  ·show max (c.cn.n : Int) 0 = (c.cn.n : Int); omega
  ·rw [hP]
   show t0.p = _ /\ _ /\ _ <= t0.th
   omega
theorem zPV {w : World} (hw : Words w) {c : jD} {d : jL} {pl : Tks} (hc : ConfAt w c d pl) (hz : confZ c d pl ≠ 0) :
  Calls Tryz.prog 12 #[c.val] w (GrowV (.tuple #[.pointer none, .int .i64 (confZ c d pl)]) w) := by
 obtain ⟨W, hW⟩ : ∃ W, W = w.alloc (.cells c.cells.toArray 27) := ⟨_, rfl⟩
 obtain ⟨X, hX⟩ : ∃ X, X = w.heap.size := ⟨_, rfl⟩
 have hXr : W.heap[X]? = some (.cells c.cells.toArray 27 (0, 0)) := by rw [hW]; exact zAB _ _ hX.symm
 have hO : Only (fun _ => False) w W := by rw [hW]; exact (Only.refl _ w).alloc _
 have h31 : Calls Tryz.prog 42 #[c.val] W (fun e w' => e = .returned (.tuple #[.pointer none, .int .i64 (confZ c d pl)]) /\ Only (fun _ => False) W w') := (zJR (w := W) (fun k s n h1 h2 => ⟨hO.cell (hw k s n h1 h2).1 id, hO.cell (hw k s n h1 h2).2 id⟩) (hc.new hO)).mono fun e w' h => by
  unfold RNewEnd at h
  rw [if_neg hz] at h
  exact h
 obtain ⟨Z, hZ⟩ : ∃ Z, Z = confZ c d pl := ⟨_, rfl⟩
 rw [<- hZ] at h31 hz ⊢
 have hz' : (Z == 0) = false := by simpa using hz
 have d0 := zAA hXr (i := 0) rfl
 have d1 := zAA hXr (i := 1) rfl
 have d2 := zAA hXr (i := 2) rfl
 have d3 := zAA hXr (i := 3) rfl
 have d4 := zAA hXr (i := 4) rfl
 have d5 := zAA hXr (i := 5) rfl
 have d6 := zAA hXr (i := 6) rfl
 have d7 := zAA hXr (i := 7) rfl
 have d8 := zAA hXr (i := 8) rfl
 have d9 := zAA hXr (i := 9) rfl
 have dl := zAG hXr
 have zZ := zh h31
 have hX' := zh hX
 have hW' := zh hW
 have hO' := zh hO
 unfold jD.cells at hW'
 unfold jD.val at zZ ⊢
 clear h31 hXr hX hW hO hw hc hZ
 go_enter Tryz.func12, Tryz.ntmps12
 go_upto_region 1 with fail
 rw [<- hX'.out, <- hW'.out]
 go_wp2_with fail
 refine zZ.out.mono ?_
 rintro e W0 ⟨rfl, hO1⟩
 have hO2 := zh (hO'.out.trans' hO1)
 clear hO1 d0 d1 d2 d3 d4 d5 d6 d7 d8 d9 dl
 go_wp2
 go_ret2
 exact ⟨rfl, hO2.out⟩
def KL (w0 : World) (c : KC) (k : Nat) (s : KS) (w : World) : Prop := ∃ m, KAt w c m s /\ m.k = k /\ (∀ q, kfp c m q -> w0.heap.size <= q) /\ Only (fun _ => False) w0 w
section
variable {w0 w w' : World} {c : KC} {k : Nat} {s s' : KS} {E : Nat} {till : Int}
theorem KL.only (h : KL w0 c k s w) : Only (fun _ => False) w0 w := by
 obtain ⟨m, -, -, -, h4⟩ := h
 exact h4
theorem KL.new (h : KL w0 c k s w) (ho : Only (fun _ => False) w w') : KL w0 c k s w' := by
 obtain ⟨m, h1, h2, h3, h4⟩ := h
 exact ⟨m, h1.new ho, h2, h3, h4.trans' ho⟩
theorem zJB {m m' : KM} (h3 : ∀ q, kfp c m q -> w0.heap.size <= q) (h4 : Only (fun _ => False) w0 w) (hk : m.k = k) (g : KT w c m w' m' s') (hk' : m'.k = m.k) : KL w0 c k s' w' := by
 refine ⟨m', g.1, hk'.trans hk, fun q hq => ?_, h4.trans g.2.1 fun x hx hS => ?_⟩
 ·rcases g.2.2 q hq with h | h
  ·exact h3 q h
  ·exact Nat.le_trans h4.size h
 ·have := h3 x hS
  omega
theorem zGV (h : KL w0 c k s w) (x : Pil.Ev) (hT : s.tn <= 1000000) : Calls Tryz.prog 14 #[ptr k, x.val] w (fun e w' => e = .returned (.int .i64 (evE c s x)) /\ KL w0 c k (evF c s x) w') := by
 obtain ⟨m, h1, h2, h3, h4⟩ := h
 rw [<- h2]
 refine (zM8 h1 x hT).mono ?_
 rintro e w' ⟨he, m', g, g1, -⟩
 exact ⟨he, zJB h3 h4 rfl g g1⟩
theorem zTQ (h : KL w0 c k s w) (hs : KOk c E s) (hc : CfgOk c) (hE : E <= 100000) (h1 : s.now <= till) (h2 : till <= 3000) :
  Calls Tryz.prog 16 #[ptr k, .int .i64 till] w (fun e w' => e = .returned (.int .i64 0) /\ KL w0 c k (runT c (till - s.now).toNat s) w') := by
 obtain ⟨m, a1, a2, a3, a4⟩ := h
 rw [<- a2, <- zH4 hs hc h1 h2]
 refine (zQB a1 hs hc hE h1 h2).mono ?_
 rintro e w' ⟨he, m', g, g1⟩
 exact ⟨he, zJB a3 a4 rfl g g1⟩
theorem zNQ (h : KL w0 c k s w) : Calls Tryz.prog 19 #[ptr k] w (GrowV (.int .i64 s.now) w) := by
 obtain ⟨m, a1, a2, a3, a4⟩ := h
 rw [<- a2]
 exact zPM a1
theorem zSE (h : KL w0 c k s w) : Calls Tryz.prog 28 #[ptr k] w (GrowV (.int .i64 s.pk) w) := by
 obtain ⟨m, a1, a2, a3, a4⟩ := h
 rw [<- a2]
 exact zNA a1
theorem zGW (h : KL w0 c k s w) (hn : s.tr.length <= 1000000000) : Calls Tryz.prog 21 #[ptr k] w (CloneEnd w 60 7 s.tr.length (rowC Rc.cells s.tr)) := by
 obtain ⟨m, a1, a2, a3, a4⟩ := h
 rw [<- a2]
 exact zK6 a1 hn
theorem zFN (h : KL w0 c k s w) (hl : s.ents.length <= 1000000000) : Calls Tryz.prog 22 #[ptr k] w (CloneEnd w 65 11 s.ents.length (rowC vZ s.ents)) := by
 obtain ⟨m, a1, a2, a3, a4⟩ := h
 rw [<- a2]
 rcases Nat.eq_zero_or_pos s.ents.length with h0 | h0
 ·have hn := List.eq_nil_of_length_eq_zero h0
  refine (zH1 a1 hn).mono ?_
  rintro e w' ⟨he, ho⟩
  rw [hn]
  exact ⟨_, none, he, Win.nil _ _ _, (fun _ q => by cases q), ho⟩
 ·exact zI8 a1 h0 hl
theorem zJC (h : KL w0 c k s w) (hn : s.jobs = []) : Calls Tryz.prog 20 #[ptr k] w (GrowV (.tuple #[.int .i64 0, .int .i64 0, .bool false]) w) := by
 obtain ⟨m, a1, a2, a3, a4⟩ := h
 rw [<- a2]
 exact zGQ a1 hn
theorem zTR (h : KL w0 c k s w) {i tn : Nat} {x : Bj} {e : Et} {t : jA} {l : List Opn} (hn : s.jobs.length = i + 1) (hx : s.jobs[i]? = some x) (he : s.ents[x.p]? = some e) (hta : e.ta = tn) (ht : c.ts[tn]? = some (t, l)) (hnl : c.nl <= 4096) : Calls Tryz.prog 20 #[ptr k] w (GrowV (.tuple #[.int .i64 e.ta, .int .i64 (levF c s t x), .bool true]) w) := by
 obtain ⟨m, a1, a2, a3, a4⟩ := h
 rw [<- a2]
 exact zPN a1 hn hx he hta ht hnl
def KLNew (w : World) (c : jD) (d : jL) (pl : Tks) (e : Ending) (w' : World) : Prop :=
 ∃ k us mo, e = .returned (.tuple #[ptr k, .int .i64 0]) /\ KL w (kc c d pl us mo) k ks0 w' /\ SameT us pl /\ (∀ i, i < c.cn.n -> mo i = Cnt.mostN (d.cn.getD i 0))
theorem zQC {w : World} (hw : Words w) {c : jD} {d : jL} {pl : Tks} (hc : ConfAt w c d pl) (hz : confZ c d pl = 0) : Calls Tryz.prog 12 #[c.val] w (KLNew w c d pl) := by
 have hpl : pl.length = c.ta.n := by rw [<- hc.t.len]; unfold Tks.ts; rw [List.length_map]
 have hf := Fin0.of_zero hz
 obtain ⟨c1, c2, c3, c4, c5, c6⟩ := hf.counts
 obtain ⟨m1, m2, -, -⟩ := hf.machine
 refine (zPR hw hc hz (by omega) c6 (by omega) (fun i t l h => ?_) m1 m2).mono ?_
 ·have := (hf.prog (by have := (List.getElem?_eq_some_iff.1 h).1; omega) h).2.1
  omega
 ·rintro e w' ⟨us, mo, m, he, hA, hS, hmo, hfp, hO⟩
  exact ⟨m.k, us, mo, he, ⟨m, hA, rfl, hfp, hO⟩, hS, hmo⟩
theorem zNR {c : jD} {d : jL} {pl : Tks} {us : List (jA × List Opn)} {mo : Nat -> Nat} {w : World} (hc : ConfAt w c d pl) (hz : confZ c d pl = 0) (hs : SameT us pl) : CfgOk (kc c d pl us mo) :=
 zTP (Fin0.of_zero hz) (by rw [<- hc.t.len]; unfold Tks.ts; rw [List.length_map]) hs
end
def CYv (W : World) (q : Nat) (c : jD) : Prop :=
 W.cell? ⟨q, 0, none⟩ = some (.int .i64 c.s) /\ W.cell? ⟨q, 1, none⟩ = some (.int .i64 c.wy) /\ W.cell? ⟨q, 2, none⟩ = some (.int .i64 c.h) /\ W.cell? ⟨q, 3, none⟩ = some (.int .i64 c.mi) /\ W.cell? ⟨q, 4, none⟩ = some (.slice c.mb.A c.mb.n c.mb.cap) /\ W.cell? ⟨q, 5, none⟩ = some (.int .i64 c.g) /\
 W.cell? ⟨q, 6, none⟩ = some (.slice c.cn.A c.cn.n c.cn.cap) /\ W.cell? ⟨q, 7, none⟩ = some (.slice c.ce.A c.ce.n c.ce.cap) /\ W.cell? ⟨q, 8, none⟩ = some (.slice c.ta.A c.ta.n c.ta.cap) /\ W.cell? ⟨q, 9, none⟩ = some (.slice c.li.A c.li.n c.li.cap) /\ q < W.heap.size
theorem zQD {W : World} {q : Nat} {c : jD} (h : W.heap[q]? = some (.cells c.cells.toArray 27 (0, 0))) : CYv W q c :=
 ⟨zAA h (i := 0) rfl, zAA h (i := 1) rfl, zAA h (i := 2) rfl, zAA h (i := 3) rfl, zAA h (i := 4) rfl, zAA h (i := 5) rfl, zAA h (i := 6) rfl, zAA h (i := 7) rfl, zAA h (i := 8) rfl, zAA h (i := 9) rfl, zAG h⟩
def few18 (c : jD) (ts : List jA) (n : Nat) (u : Int) : Bool := fewB c ts && (decide (c.g < 1000) && (decide (-1000 < c.g) && (decide (n <= 40) && decide (u <= 1500))))
set_option maxHeartbeats 4000000 in
theorem zNS {w : World} {c : jD} {d : jL} {pl : Tks} (hC : ConfIn w c d pl) (A : Option Addr) (n cap : Nat) (u : Int) :
  Calls Tryz.prog 10 #[c.val, .slice A n cap, .int .i64 u] w (GrowV (.bool (few18 c pl.ts n u)) w) := by
 obtain ⟨q, hq⟩ : ∃ q, q = w.heap.size := ⟨_, rfl⟩
 obtain ⟨W2, hW2⟩ : ∃ W2, W2 = w.alloc (.cells c.cells.toArray 27) := ⟨_, rfl⟩
 have hO2 : Only (fun _ => False) w W2 := by rw [hW2]; exact (Only.refl _ w).alloc _
 have b0 : W2.heap[q]? = some (.cells c.cells.toArray 27 (0, 0)) := by rw [hW2]; exact zAB _ _ hq.symm
 have hq' := zh hq
 have hcy := zh (fun W (ho : Only (fun _ => False) W2 W) => zQD (ho.heap b0 id))
 obtain ⟨cv, hcv⟩ : ∃ cv, cv = c.val := ⟨_, rfl⟩
 obtain ⟨F, hF⟩ : ∃ F, F = fewB c pl.ts := ⟨_, rfl⟩
 have kfe := zh (show Calls Tryz.prog 38 #[cv] W2 (GrowB F W2) from by rw [hcv, hF]; exact (hC.new hO2).few)
 obtain ⟨Z, hZ⟩ : ∃ Z, Z = GrowV (.bool (few18 c pl.ts n u)) w := ⟨_, rfl⟩
 rw [<- hZ]
 have xN := zh (fun W (ho : Only (fun _ => False) W2 W) v (hv : v = (F && (decide (c.g < 1000) && (decide (-1000 < c.g) && (decide (n <= 40) && decide (u <= 1500)))))) => show Z (.returned (.bool v)) W from by rw [hZ, hv, hF]; exact ⟨rfl, hO2.trans' ho⟩)
 rw [<- hcv]
 unfold jD.val at hcv
 subst hcv
 unfold CYv at hcy
 unfold jD.cells at hW2
 have vH := zh hW2
 clear hC hq hO2 b0 hW2 hF hZ
 obtain ⟨c0, wy, h, mi, ⟨mA, mn, mc⟩, g, ⟨cA, cn, cc⟩, ⟨eA, en, ec⟩, ⟨tA, tn, tc⟩, ⟨lA, ln, lc⟩⟩ := c
 dsimp only at *
 obtain ⟨d0, d1, d2, d3, d4, d5, d6, d7, d8, d9, dl⟩ := hcy.out W2 (Only.refl _ _)
 go_enter Tryz.func10, Tryz.ntmps10
 go_upto_region 1 with fail
 rw [<- hq'.out]
 rw [<- vH.out]
 go_wp2_with fail
 refine kfe.out.mono ?_
 rintro e w3 ⟨rfl, ho⟩
 have hO3 := zh ho
 clear ho d0 d1 d2 d3 d4 d5 d6 d7 d8 d9 dl kfe
 obtain ⟨d0, d1, d2, d3, d4, d5, d6, d7, d8, d9, dl⟩ := hcy.out w3 hO3.out
 have hy := zh (fun v hv => xN.out w3 hO3.out v hv)
 clear xN hcy d0 d1 d2 d3 d4 d6 d7 d8 d9
 cases F with
 | false =>
  go_wp2
  exact hy.out _ rfl
 | true =>
  by_cases h1 : g < 1000
  ·by_cases h2 : -1000 < g
   ·by_cases h3 : n <= 40
    ·have h3' : (n : Int) <= 40 := by omega
     by_cases h4 : u <= 1500
     ·go_wp2
      exact hy.out _ (by simp [h1, h2, h3, h4])
     ·go_wp2
      exact hy.out _ (by simp [h1, h2, h3])
    ·have h3' : ¬ (n : Int) <= 40 := by omega
     go_wp2
     exact hy.out _ (by simp; omega)
   ·go_wp2
    exact hy.out _ (by simp; omega)
  ·go_wp2
   exact hy.out _ (by simp; omega)
def EvsAt (w : World) (A : Option Addr) (l : List Pil.Ev) : Prop := ∀ (k : Nat) x, l[k]? = some x -> ∃ b off, A = some ⟨b, off, none⟩ /\ b < w.heap.size /\ w.cell? ⟨b, off + k * 5, none⟩ = some (.int .i64 x.t) /\ w.cell? ⟨b, off + k * 5 + 1, none⟩ = some (.int .i64 x.k) /\ w.cell? ⟨b, off + k * 5 + 2, none⟩ = some (.int .i64 x.a) /\ w.cell? ⟨b, off + k * 5 + 3, none⟩ = some (.int .i64 x.b) /\ w.cell? ⟨b, off + k * 5 + 4, none⟩ = some (.int .i64 x.c)
theorem EvsAt.new {w w' : World} {A : Option Addr} {l : List Pil.Ev} (h : EvsAt w A l) (ho : Only (fun _ => False) w w') : EvsAt w' A l := fun k x hx => by
 obtain ⟨b, off, h1, h2, h3, h4, h5, h6, h7⟩ := h k x hx
 exact ⟨b, off, h1, Nat.lt_of_lt_of_le h2 ho.size, ho.cell h3 id, ho.cell h4 id, ho.cell h5 id, ho.cell h6 id, ho.cell h7 id⟩
theorem zCJ (w : World) : IntsAt w ⟨none, 0, 0⟩ [] := ⟨rfl, Nat.le_refl _, fun k z hz => by simp at hz⟩
def fxA (X : Nat) : jA := ⟨1, 1, 50, 50, 7, 0, ⟨some ⟨X, 0, none⟩, 1, 1⟩⟩
def fxB (X : Nat) : jA := ⟨2, 2, 50, 50, 0, 0, ⟨some ⟨X + 1, 0, none⟩, 1, 1⟩⟩
def fxC (X : Nat) : jD := ⟨1, 1, 1, 4, ⟨none, 0, 0⟩, 0, ⟨none, 0, 0⟩, ⟨none, 0, 0⟩, ⟨some ⟨X + 2, 0, none⟩, 2, 2⟩, ⟨none, 0, 0⟩⟩
def fxP (X : Nat) : Tks := [(fxA X, [⟨1, 5, 0⟩]), (fxB X, [⟨2, 3, 0⟩])]
def fxD : jL := ⟨[], [], [], []⟩
def fx0 : jD := ⟨0, 0, 0, 0, ⟨none, 0, 0⟩, 0, ⟨none, 0, 0⟩, ⟨none, 0, 0⟩, ⟨none, 0, 0⟩, ⟨none, 0, 0⟩⟩
theorem zNT (X : Nat) : confZ (fxC X) fxD (fxP X) = 0 := by rfl
theorem zH5 : confZ fx0 fxD [] = 5 := by rfl
theorem zPW (w : World) : ConfAt w fx0 fxD [] :=
 ⟨⟨zCJ _, zCJ _, zCJ _, zCJ _, (by show 0 <= 1000000; omega), (by show 0 <= 1000000; omega), (by show 0 <= 1000000; omega), (by show 0 <= 1000000; omega), (by show 0 <= 1000000; omega)⟩, ⟨rfl, Nat.le_refl _, fun k t ht => by simp [Tks.ts] at ht⟩, ⟨fun k t l ht => by simp at ht⟩⟩
theorem zSF {w : World} {X : Nat} (h1 : w.heap[X]? = some (.cells [.int .i64 1, .int .i64 5, .int .i64 0].toArray 94 (0, 0))) (h2 : w.heap[X + 1]? = some (.cells [.int .i64 2, .int .i64 3, .int .i64 0].toArray 94 (0, 0))) (h3 : w.heap[X + 2]? = some (.cells ((fxA X).cells ++ (fxB X).cells).toArray 63 (0, 0))) : ConfAt w (fxC X) fxD (fxP X) := by
 have zP : OpnRow w (some ⟨X, 0, none⟩) [⟨1, 5, 0⟩] := fun k o ho => by
  match k, ho with
  | 0, ho => cases ho; exact ⟨X, 0, rfl, zAG h1, zAA h1 (i := 0) rfl, zAA h1 (i := 1) rfl, zAA h1 (i := 2) rfl⟩
  | k + 1, ho => simp at ho
 have yA : OpnRow w (some ⟨X + 1, 0, none⟩) [⟨2, 3, 0⟩] := fun k o ho => by
  match k, ho with
  | 0, ho => cases ho; exact ⟨X + 1, 0, rfl, zAG h2, zAA h2 (i := 0) rfl, zAA h2 (i := 1) rfl, zAA h2 (i := 2) rfl⟩
  | k + 1, ho => simp at ho
 refine ⟨⟨zCJ _, zCJ _, zCJ _, zCJ _, (by show 0 <= 1000000; omega), (by show 0 <= 1000000; omega), (by show 0 <= 1000000; omega), (by show 0 <= 1000000; omega), (by show 2 <= 1000000; omega)⟩, ⟨rfl, Nat.le_refl _, fun k o ho => ?_⟩, ⟨fun k t l ht => ?_⟩⟩
 ·match k, ho with
  | 0, ho => cases ho; exact ⟨X + 2, 0, rfl, zAG h3, zAA h3 (i := 0) rfl, zAA h3 (i := 1) rfl, zAA h3 (i := 2) rfl, zAA h3 (i := 3) rfl, zAA h3 (i := 4) rfl, zAA h3 (i := 5) rfl, zAA h3 (i := 6) rfl⟩
  | 1, ho => cases ho; exact ⟨X + 2, 0, rfl, zAG h3, zAA h3 (i := 7) rfl, zAA h3 (i := 8) rfl, zAA h3 (i := 9) rfl, zAA h3 (i := 10) rfl, zAA h3 (i := 11) rfl, zAA h3 (i := 12) rfl, zAA h3 (i := 13) rfl⟩
  | k + 2, ho => simp [fxP, Tks.ts] at ho
 ·match k, ht with
  | 0, ht => cases ht; exact ⟨zP, rfl, (by show 1 <= 1000000; omega), Nat.le_refl _⟩
  | 1, ht => cases ht; exact ⟨yA, rfl, (by show 1 <= 1000000; omega), Nat.le_refl _⟩
  | k + 2, ht => simp [fxP] at ht
theorem zUG {us : List (jA × List Opn)} {X : Nat} (h : SameT us (fxP X)) : ∃ o1 o2, us = [({ fxA X with o := o1 }, [⟨1, 5, 0⟩]), ({ fxB X with o := o2 }, [⟨2, 3, 0⟩])] := by
 obtain ⟨o1, h1⟩ := h.2 0 _ _ (show (fxP X)[0]? = some _ from rfl)
 obtain ⟨o2, h2⟩ := h.2 1 _ _ (show (fxP X)[1]? = some _ from rfl)
 refine ⟨o1, o2, List.ext_getElem? fun i => ?_⟩
 match i with
 | 0 => exact h1
 | 1 => exact h2
 | i + 2 =>
  have := h.1
  rw [List.getElem?_eq_none (by rw [this]; show 2 <= i + 2; omega)]
  rfl
def jAa : Pil.Ev := ⟨3, 1, 0, 0, 0⟩
def jA8 : Pil.Ev := ⟨4, 1, 1, 0, 0⟩
def fxS (c : KC) : KS := evF c (evF c ks0 jAa) jA8
theorem zTS (X : Nat) (o1 o2 : Sl) (mo : Nat -> Nat) : evE (kc (fxC X) fxD (fxP X) [({ fxA X with o := o1 }, [⟨1, 5, 0⟩]), ({ fxB X with o := o2 }, [⟨2, 3, 0⟩])] mo) ks0 jAa = 0 := by kernel_rfl
theorem zTT (X : Nat) (o1 o2 : Sl) (mo : Nat -> Nat) : evE (kc (fxC X) fxD (fxP X) [({ fxA X with o := o1 }, [⟨1, 5, 0⟩]), ({ fxB X with o := o2 }, [⟨2, 3, 0⟩])] mo) (evF (kc (fxC X) fxD (fxP X) [({ fxA X with o := o1 }, [⟨1, 5, 0⟩]), ({ fxB X with o := o2 }, [⟨2, 3, 0⟩])] mo) ks0 jAa) jA8 = 0 := by kernel_rfl
theorem zTU (X : Nat) (o1 o2 : Sl) (mo : Nat -> Nat) (c : KC) (hc : c = kc (fxC X) fxD (fxP X) [({ fxA X with o := o1 }, [⟨1, 5, 0⟩]), ({ fxB X with o := o2 }, [⟨2, 3, 0⟩])] mo) :
  (fxS c).now = 0 /\ (fxS c).tn = 2 /\ (runT c 20 (fxS c)).tr.length = 8 /\ (runT c 20 (fxS c)).pk = 7 /\ (runT c 20 (fxS c)).now = 20 /\ (runT c 20 (fxS c)).ents = [⟨0, 0, 3, 3, 12, false, 1, 0, 0, 0, 0, 0, 5⟩, ⟨1, 0, 4, 4, 8, false, 0, 0, 1, 0, 7, 1, 4⟩] := by
 subst hc
 exact ⟨by kernel_rfl, by kernel_rfl, by kernel_rfl, by kernel_rfl, by kernel_rfl, by kernel_rfl⟩
set_option maxHeartbeats 8000000 in
theorem zJD (w : World) (hw : Words w) : Calls Tryz.prog 9 #[] w fun e w' => e = .returned (.bool true) /\ Only (fun _ => False) w w' := by
 obtain ⟨X, hX⟩ : ∃ X, X = w.heap.size := ⟨_, rfl⟩
 have hX' := zh hX
 obtain ⟨W, hW⟩ : ∃ W, W = (((w.alloc (.cells #[.int .i64 1, .int .i64 5, .int .i64 0] 94)).alloc (.cells #[.int .i64 2, .int .i64 3, .int .i64 0] 94)).alloc (.cells #[.int .i64 1, .int .i64 1, .int .i64 50, .int .i64 50, .int .i64 7, .int .i64 0, .slice (some ⟨X, 0, none⟩) 1 1, .int .i64 2, .int .i64 2, .int .i64 50, .int .i64 50, .int .i64 0, .int .i64 0, .slice (some ⟨X + 1, 0, none⟩) 1 1] 63)).alloc (.cells #[.int .i64 1, .int .i64 1, .int .i64 1, .int .i64 4, .slice none 0 0, .int .i64 0, .slice none 0 0, .slice none 0 0, .slice (some ⟨X + 1 + 1, 0, none⟩) 2 2, .slice none 0 0] 27) := ⟨_, rfl⟩
 have hW' := zh hW
 have hO : Only (fun _ => False) w W := by rw [hW]; exact ((((Only.refl _ w).alloc _).alloc _).alloc _).alloc _
 have hc : ConfAt W (fxC X) fxD (fxP X) := zSF (by rw [hW]; exact zAF (zAF (zAF (zAB _ _ hX.symm) _) _) _) (by rw [hW]; exact zAF (zAF (zAB _ _ (by simp [hX])) _) _) (by rw [hW]; exact zAF (zAB _ _ (by simp [hX])) _)
 have hwo := fun W' (h : Only (fun _ => False) w W') => (show Words W' from fun k s n h1 h2 => ⟨h.cell (hw k s n h1 h2).1 id, h.cell (hw k s n h1 h2).2 id⟩)
 have hnew := zh (zQC (hwo _ hO) hc (zNT X))
 have hn2 := zh (fun W' (h : Only (fun _ => False) w W') => zPV (hwo _ h) (zPW W') (by rw [zH5]; decide))
 have hO' := zh hO
 have hc' := zh hc
 rw [show (fxC X).val = .agg #[.int .i64 1, .int .i64 1, .int .i64 1, .int .i64 4, .slice none 0 0, .int .i64 0, .slice none 0 0, .slice none 0 0, .slice (some ⟨X + 1 + 1, 0, none⟩) 2 2, .slice none 0 0] from rfl] at hnew
 rw [show fx0.val = .agg #[.int .i64 0, .int .i64 0, .int .i64 0, .int .i64 0, .slice none 0 0, .int .i64 0, .slice none 0 0, .slice none 0 0, .slice none 0 0, .slice none 0 0] from rfl, zH5] at hn2
 clear hX hW hO hc hwo hw
 go_enter Tryz.func9, Tryz.ntmps9
 go_wp2_with fail
 rw [<- hX'.out, <- hW'.out]
 refine hnew.out.mono ?_
 rintro e w1 ⟨k, us, mo, rfl, hK, hS, -⟩
 obtain ⟨o1, o2, rfl⟩ := zUG hS
 have zW := zh (zNR (mo := mo) hc'.out (zNT X) hS)
 have v1 := zTS X o1 o2 mo
 have v2 := zTT X o1 o2 mo
 obtain ⟨c, hcc⟩ : ∃ c, c = kc (fxC X) fxD (fxP X) [({ fxA X with o := o1 }, [⟨1, 5, 0⟩]), ({ fxB X with o := o2 }, [⟨2, 3, 0⟩])] mo := ⟨_, rfl⟩
 obtain ⟨f1, f2, f3, f4, f5, f6⟩ := zTU X o1 o2 mo c hcc
 rw [<- hcc] at hK zW v1 v2
 have q1 := zh (zGV hK jAa (Nat.zero_le _))
 rw [v1, show jAa.val = .agg #[.int .i64 3, .int .i64 1, .int .i64 0, .int .i64 0, .int .i64 0] from rfl] at q1
 have hO1 := zh hO'.out
 unfold ptr at q1 ⊢
 clear hK hS hnew hX' hW' hc' hcc v1 hO'
 go_wp2_with fail
 refine q1.out.mono ?_
 rintro e w2 ⟨rfl, hK2⟩
 have q2 := zh (zGV hK2 jA8 (by unfold evF; split <;> exact Nat.le_of_ble_eq_true rfl))
 rw [v2, show jA8.val = .agg #[.int .i64 4, .int .i64 1, .int .i64 1, .int .i64 0, .int .i64 0] from rfl] at q2
 unfold ptr at q2
 clear hK2 q1 v2
 go_wp2_with fail
 refine q2.out.mono ?_
 rintro e w3 ⟨rfl, hK3⟩
 have hok : KOk c 2 (fxS c) := ((KOk.first c).event jAa).event jA8
 have q3 := zh (zTQ (till := 20) (show KL W c k (fxS c) w3 from hK3) hok zW.out (by omega) (by rw [f1]; omega) (by omega))
 rw [f1, show ((20 : Int) - 0).toNat = 20 from rfl] at q3
 obtain ⟨S, hS⟩ : ∃ S, S = runT c 20 (fxS c) := ⟨_, rfl⟩
 rw [<- hS] at q3 f3 f4 f5 f6
 unfold ptr at q3
 clear hK3 q2 hok f1 f2 zW hS
 go_wp2_with fail
 refine q3.out.mono ?_
 rintro e w4 ⟨rfl, hK4⟩
 have q4 := zh (zFN hK4 (by rw [f6]; exact Nat.le_of_ble_eq_true rfl))
 have jEk := zh hK4
 unfold ptr at q4
 clear hK4 q3
 go_wp2_with fail
 refine q4.out.mono ?_
 rintro e w5 ⟨v, g, rfl, xM, -, hO5⟩
 rw [f6] at xM
 obtain ⟨g1, off, cap, -, rfl, -, -, hg, hcell, -⟩ := xM.at_ (Nat.succ_pos 1)
 have e3 := hcell 3 _ rfl
 have e4 := hcell 4 _ rfl
 have e6 := hcell 6 _ rfl
 have e14 := hcell 14 _ rfl
 have e15 := hcell 15 _ rfl
 have e19 := hcell 19 _ rfl
 have hK5 := zh (jEk.out.new hO5)
 have q5 := zh (hn2.out w5 (hK5.out.only |> fun h => hO1.out.trans' h))
 clear xM hcell q4 hn2 jEk hO5
 go_wp2_with fail
 refine q5.out.mono ?_
 rintro e w6 ⟨rfl, hO6⟩
 have c3 := hO6.cell e3 id
 have c4 := hO6.cell e4 id
 have c6 := hO6.cell e6 id
 have c14 := hO6.cell e14 id
 have c15 := hO6.cell e15 id
 have c19 := hO6.cell e19 id
 have hg6 := Nat.lt_of_lt_of_le hg hO6.size
 have hK6 := zh (hK5.out.new hO6)
 have q6 := zh (zSE hK6.out)
 rw [f4] at q6
 unfold ptr at q6
 clear e3 e4 e6 e14 e15 e19 hg hO6 hK5 q5
 go_wp2_with fail
 refine q6.out.mono ?_
 rintro e w7 ⟨rfl, hO7⟩
 have hK7 := zh (hK6.out.new hO7)
 have q7 := zh (zGW hK7.out (by rw [f3]; exact Nat.le_of_ble_eq_true rfl))
 rw [f3] at q7
 unfold ptr at q7
 clear c3 c4 c6 c14 c15 c19 hg6 hO7 hK6 q6
 go_wp2_with fail
 refine q7.out.mono ?_
 rintro e w8 ⟨v8, g8, rfl, hW8, -, hO8⟩
 obtain ⟨p8, jI6, rfl, -, -⟩ := hW8.form
 have hK8 := zh (hK7.out.new hO8)
 have q8 := zh (zNQ hK8.out)
 rw [f5] at q8
 unfold ptr at q8
 clear hW8 hO8 hK7 q7
 go_wp2_with fail
 refine q8.out.mono ?_
 rintro e w9 ⟨rfl, hO9⟩
 have jE := zh (hO1.out.trans' (hK8.out.new hO9).only)
 clear hO9 hK8 q8
 go_wp2
 go_ret
 exact ⟨rfl, jE.out⟩
section
variable {c : KC} {s : KS} {E : Nat}
end
def TrueEnd (w : World) (e : Ending) (w' : World) : Prop := e = .returned (.bool true) /\ Only (fun _ => False) w w'
theorem zE6 {w w' : World} (hw : Words w) (h : Only (fun _ => False) w w') : Words w' := fun k s n h1 h2 => ⟨h.cell (hw k s n h1 h2).1 id, h.cell (hw k s n h1 h2).2 id⟩
structure Ask (w : World) (c : jD) (d : jL) (pl : Tks) (A : Option Addr) (n cap : Nat) (N : Int) (cv : Value) (F : Bool) (CZ : Int) : Prop where
 fx : ∀ W, Only (fun _ => False) w W -> Calls Tryz.prog 9 #[] W (TrueEnd W)
 few : ∀ W, Only (fun _ => False) w W -> Calls Tryz.prog 10 #[cv, .slice A n cap, .int .i64 N] W (GrowV (.bool F) W)
 chk : F = true -> ∀ W, Only (fun _ => False) w W -> Calls Tryz.prog 11 #[cv] W (GrowI CZ W)
 new : F = true -> CZ = 0 -> ∀ W, Only (fun _ => False) w W -> Calls Tryz.prog 12 #[cv] W (KLNew W c d pl)
theorem zSG {w : World} (hw : Words w) {c : jD} {d : jL} {pl : Tks} (hC : ConfIn w c d pl) (A : Option Addr) (n cap : Nat) (N : Int) : Ask w c d pl A n cap N c.val (few18 c pl.ts n N) (confZ c d pl) := by
 have hsm : few18 c pl.ts n N = true -> fewB c pl.ts = true := fun h => by
  unfold few18 at h
  rw [Bool.and_eq_true] at h
  exact h.1
 refine ⟨fun W hO => zJD W (zE6 hw hO), fun W hO => zNS (hC.new hO) A n cap N, fun hF W hO => ?_, fun hF hZ W hO => ?_⟩
 ·exact zFD ((hC.new hO).conf (hsm hF))
 ·exact zQC (zE6 hw hO) ((hC.new hO).conf (hsm hF)) hZ
theorem zSH (c : KC) (s : KS) (x : Pil.Ev) : (evF c s x).now = s.now := by
 unfold evF
 split <;> rfl
