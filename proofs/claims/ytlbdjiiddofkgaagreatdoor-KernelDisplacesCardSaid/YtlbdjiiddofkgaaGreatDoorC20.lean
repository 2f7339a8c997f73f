import Derived.Test.YtlbdjiiddofkgaaGreatDoorC15
import Derived.Test.YtlbdjiiddofkgaaGreatDoorC19
set_option maxRecDepth 100000
namespace Go.Proofs.YtlbdjiiddofkgaaGreatDoor
open Go Go.RowKit
def lowB (ce : List Int) (p : Int) (o : Opn) : Bool := decide (o.k = 5) && decide (ce.getD o.a.toNat 0 < p)
theorem zDG {ce : List Int} {p b z : Int} {a : Nat} (h : ce.getD a 0 = z) : lowB ce p ⟨5, a, b⟩ = decide (z < p) := by
 subst h
 unfold lowB
 simp
theorem zJP {ce : List Int} {p k a b : Int} (h : ¬ k = 5) : lowB ce p ⟨k, a, b⟩ = false := by
 unfold lowB
 simp [h]
theorem zQ7 {W : World} {p q : Nat} {x : Sl} {ce : List Int} {t : jA} (hC : IntsAt W x ce) (h9 : x.n <= 1000000) (hx : W.cell? ⟨q, 0, none⟩ = some (.slice x.A x.n x.cap)) (hq : q < W.heap.size) (hc : W.cell? ⟨p, 0, none⟩ = some (.int .i64 t.p)) (hp : p < W.heap.size)
  (o : Opn) (ho : o.k = 5 -> 0 <= o.a /\ o.a < ce.length) :
  Calls Tryz.prog 250 #[o.val, .pointer (some ⟨q, 0, none⟩), .pointer (some ⟨p, 0, none⟩)] W (GrowB (lowB ce t.p o) W) := by
 rw [show o.val = .agg #[.int .i64 o.k, .int .i64 o.a, .int .i64 o.b] from rfl]
 obtain ⟨v, hv⟩ : ∃ v, v = lowB ce t.p o := ⟨_, rfl⟩
 rw [<- hv]
 have hv' := zh hv
 clear hv
 have hO := zh ((Only.refl (fun _ => False) W).alloc (.cells [.int .i64 o.k, .int .i64 o.a, .int .i64 o.b].toArray 94))
 obtain ⟨k, a, b⟩ := o
 obtain ⟨A, n, cap⟩ := x
 obtain ⟨P, th, pe, de, fr, fl, ⟨oA, on, oc⟩⟩ := t
 simp only at *
 by_cases h : k = 5
 ·subst h
  obtain ⟨h1, h2⟩ := ho rfl
  obtain ⟨a, rfl⟩ := Int.eq_ofNat_of_zero_le h1
  have hlen := hC.len
  simp only at hlen
  obtain ⟨z, hz⟩ : ∃ z, ce[a]? = some z := ⟨_, List.getElem?_eq_getElem (by omega)⟩
  obtain ⟨bb, off, hA, hb, c0⟩ := hC.at_ a z hz
  simp only at hA
  subst hA
  have han : (a : Int) < (n : Int) := by omega
  have jFg : a < n := by omega
  have hgd := zh (show ce.getD a 0 = z by rw [List.getD_eq_getElem?_getD, hz]; rfl)
  clear hC hz ho hlen h2
  by_cases hlt : z < P
  ·have hw := zh (show v = true by rw [hv'.out, zDG hgd.out]; simp [hlt])
   go_enter Tryz.func250, Tryz.ntmps250
   go_wp2
   go_quiet (fail)
   go_wp2
   go_ret
   exact zAO (by first | exact hw.out.symm | (rw [hw.out]; simp [hlt])) (hO.out.drewN _)
  ·have hw := zh (show v = false by rw [hv'.out, zDG hgd.out]; simp; omega)
   go_enter Tryz.func250, Tryz.ntmps250
   go_wp2
   go_quiet (fail)
   go_wp2
   go_ret
   exact zAO (by first | exact hw.out.symm | (rw [hw.out]; simp [hlt])) (hO.out.drewN _)
 ·have hw := zh (show v = false by rw [hv'.out, zJP h])
  clear hC ho
  go_enter Tryz.func250, Tryz.ntmps250
  go_wp2
  go_quiet (fail)
  go_wp2
  go_ret
  exact zAO (by first | exact hw.out.symm | (rw [hw.out]; simp [h])) (hO.out.drewN _)
theorem zHG {w : World} {p q : Nat} {x : Sl} {ce : List Int} {t : jA} (hC : IntsAt w x ce) (h9 : x.n <= 1000000) (hx : w.cell? ⟨q, 0, none⟩ = some (.slice x.A x.n x.cap)) (hq : q < w.heap.size) (hc : w.cell? ⟨p, 0, none⟩ = some (.int .i64 t.p)) (hp : p < w.heap.size)
  {y : Sl} {l : List Opn} (hl : OpnRow w y.A l) (hn : l.length = y.n) (hm : y.n <= 1000000) (ho : ∀ o ∈ l, o.k = 5 -> 0 <= o.a /\ o.a < ce.length) :
  Calls Tryz.prog 292 #[.slice y.A y.n y.cap, .func (.func 250) #[] #[.pointer (some ⟨q, 0, none⟩), .pointer (some ⟨p, 0, none⟩)]] w (IdxEnd (l.any (lowB ce t.p)) w) := by
 have qq := zh (fun (W : World) (hW : Only (fun _ => False) w W) (o : Opn) (hh : o.k = 5 -> 0 <= o.a /\ o.a < ce.length) => zQ7 (t := t) (hC.new hW) h9 (hW.cell hx id) (Nat.lt_of_lt_of_le hq hW.size) (hW.cell hc id) (Nat.lt_of_lt_of_le hp hW.size) o hh)
 obtain ⟨A, n, cap⟩ := y
 have hl' := zh hl
 have ho' := zh ho
 simp only at *
 have hlen' := zh hn
 obtain ⟨P, hP⟩ : ∃ P, P = t.p := ⟨_, rfl⟩
 rw [<- hP] at qq ⊢
 clear hl hn hc hp hx hq hC ho hP
 go_enter Tryz.func292, Tryz.ntmps292
 go_wp2
 go_loopw [8] (fun i wr => ∃ k : Nat, k <= n /\ i = .int .i64 k /\ (∀ (j : Nat) t, j < k -> l[j]? = some t -> lowB ce P t = false) /\ Only (fun _ => False) w wr) (fun i _ => n - (intOf i).toNat)
 case atStart => exact ⟨0, Nat.zero_le _, rfl, (fun j z hj => by omega), Only.refl _ w⟩
 case round =>
  obtain ⟨k, hk, rfl, hall, hO⟩ := hrel
  have jT := zh hall
  have hO' := zh hO
  clear hall hO
  by_cases hkn : k < n
  ·have vR : (k : Int) < (n : Int) := by omega
   obtain ⟨o, ht⟩ : ∃ t, l[k]? = some t := ⟨_, List.getElem?_eq_getElem (by have := hlen'.out; omega)⟩
   obtain ⟨b, off, hA, hb, hC⟩ := hl'.out k o ht
   subst hA
   have c0 := hO'.out.cell hC.1 id
   have c1 := hO'.out.cell hC.2.1 id
   have c2 := hO'.out.cell hC.2.2 id
   clear hC
   have hq := qq.out _ hO'.out o (ho'.out o (List.mem_of_getElem? ht))
   have ht' := zh ht
   clear ht
   rw [show o.val = .agg #[.int .i64 o.k, .int .i64 o.a, .int .i64 o.b] from rfl] at hq
   obtain ⟨v, hv⟩ : ∃ v, v = lowB ce P o := ⟨_, rfl⟩
   rw [<- hv] at hq
   have hv' := zh hv
   clear hv
   have hq' := zh hq
   clear hq
   obtain ⟨ok, oa, ob⟩ := o
   simp only at *
   go_wp2_with fail
   refine (hq'.out).mono ?_
   rintro e w1 ⟨rfl, hO1⟩
   have hO2 := zh (hO'.out.trans' hO1)
   clear hO1
   clear hq'
   cases hvc : v
   rotate_left
   ·rw [hvc] at hv'
    subst hvc
    have hz := zh (zGD (l := l) (f := lowB ce P) ht'.out hv'.out.symm)
    go_wp2
    go_ret
    exact ⟨_, rfl, by rw [hz.out]; simp, by omega, by omega, hO2.out⟩
   ·rw [hvc] at hv'
    subst hvc
    have hnx := zh (show ∀ (j : Nat) y, j < k + 1 -> l[j]? = some y -> lowB ce P y = false from fun j y hj hy => by
      by_cases hjk : j < k
      ·exact jT.out j y hjk hy
      ·obtain rfl : j = k := by omega
       rw [ht'.out] at hy
       cases hy
       exact hv'.out.symm)
    go_wp2
    go_roundw
    case rel => exact ⟨k + 1, by omega, by go_num, hnx.out, hO2.out⟩
    case measure => simp [intOf]; omega
  ·obtain rfl : k = n := by omega
   have hz := zh (zGC (l := l) (f := lowB ce P) (fun j z hz => jT.out j z (by have := (List.getElem?_eq_some_iff.1 hz).1; have := hlen'.out; omega) hz))
   go_wp2
   go_ret
   exact ⟨_, rfl, by rw [hz.out]; simp, by omega, by omega, hO'.out⟩
theorem zEM {w : World} {p q : Nat} {x : Sl} {ce : List Int} {t : jA} (hC : IntsAt w x ce) (h9 : x.n <= 1000000) (hx : w.cell? ⟨q, 0, none⟩ = some (.slice x.A x.n x.cap)) (hq : q < w.heap.size) (hc : w.cell? ⟨p, 0, none⟩ = some (.int .i64 t.p)) (hp : p < w.heap.size)
  {y : Sl} {l : List Opn} (hl : OpnRow w y.A l) (hn : l.length = y.n) (hm : y.n <= 1000000) (ho : ∀ o ∈ l, o.k = 5 -> 0 <= o.a /\ o.a < ce.length) :
  Calls Tryz.prog 249 #[.slice y.A y.n y.cap, .func (.func 250) #[] #[.pointer (some ⟨q, 0, none⟩), .pointer (some ⟨p, 0, none⟩)]] w (GrowB (l.any (lowB ce t.p)) w) := by
 have qq := zh (zHG hC h9 hx hq hc hp hl hn hm ho)
 obtain ⟨v, hv⟩ : ∃ v, v = l.any (lowB ce t.p) := ⟨_, rfl⟩
 rw [<- hv] at qq ⊢
 obtain ⟨A, n, cap⟩ := y
 simp only at *
 clear hC hx hq hc hp hl hn hm ho hv
 go_enter Tryz.func249, Tryz.ntmps249
 go_wp2_with fail
 refine (qq.out).mono ?_
 rintro e w1 ⟨z, rfl, hz, h1, h2, hO⟩
 have hz' := zh hz
 have hO' := zh hO
 clear hz hO qq
 by_cases h0 : 0 <= z
 ·have hv := zh (hz'.out.1 h0)
  go_wp2
  go_ret
  exact zAO (by first | exact hv.out.symm | (rw [hv.out]; simp [h0])) hO'.out
 ·have hv := zh (show v = false by have := fun h => h0 (hz'.out.2 h); simpa using this)
  go_wp2
  go_ret
  exact zAO (by first | exact hv.out.symm | (rw [hv.out]; simp [h0])) hO'.out
theorem zFC {w : World} {x : Sl} {ce : List Int} {t : jA} (hC : IntsAt w x ce) (h9 : x.n <= 1000000)
  {l : List Opn} (hl : OpnRow w t.o.A l) (hn : l.length = t.o.n) (hm : t.o.n <= 1000000) (ho : ∀ o ∈ l, o.k = 5 -> 0 <= o.a /\ o.a < ce.length) :
  Calls Tryz.prog 203 #[t.val, .slice x.A x.n x.cap] w (GrowB (l.any (lowB ce t.p)) w) := by
 have hmf : ∀ (fn : Fn) (first cap : Array Value) (w : World), (Instr.makeFunc fn first cap).run Tryz.prog w = .ok (.func fn first cap) w := fun _ _ _ _ => rfl
 have hO := ((Only.refl (fun _ => False) w).alloc (.cells t.cells.toArray 63)).alloc (.cells [.slice x.A x.n x.cap].toArray 24)
 have hB := zAF (zAB w (.cells t.cells.toArray 63) rfl) (.cells [.slice x.A x.n x.cap].toArray 24)
 have hB2 := zAB (w.alloc (.cells t.cells.toArray 63)) (.cells [.slice x.A x.n x.cap].toArray 24) (X := w.heap.size + 1) (by simp)
 have qq := zh (zEM (t := t) (hC.new hO) h9 (zAA hB2 (i := 0) rfl) (zAG hB2) (zAA hB (i := 0) rfl) (zAG hB) (hl.new hO) hn hm ho)
 rw [show t.val = .agg #[.int .i64 t.p, .int .i64 t.th, .int .i64 t.pe, .int .i64 t.de, .int .i64 t.fr, .int .i64 t.fl, .slice t.o.A t.o.n t.o.cap] from rfl]
 unfold jA.cells at qq hO hB hB2
 obtain ⟨v, hv⟩ : ∃ v, v = l.any (lowB ce t.p) := ⟨_, rfl⟩
 rw [<- hv] at qq ⊢
 obtain ⟨A, n, cap⟩ := x
 obtain ⟨P, th, pe, de, fr, fl, ⟨oA, on, oc⟩⟩ := t
 simp only at *
 have c6 := zAA hB (i := 6) rfl
 have hO' := zh hO
 clear hC hl hn ho hv hB hB2 hO
 go_enter Tryz.func203, Tryz.ntmps203
 go_wp2_with fail
 refine (qq.out).mono ?_
 rintro e w1 ⟨rfl, hO1⟩
 have hO2 := zh (hO'.out.trans' hO1)
 clear hO1 qq hO'
 go_wp2
 go_ret
 exact zAO rfl hO2.out
def jA.okB (t : jA) : Bool := taskB t.p t.th t.pe t.de t.fr t.fl
def taskZ (r : jF) (ce : List Int) (ts : List jA) (i : Nat) (t : jA) (l : List Opn) : Int :=
 if t.okB = false then 5 else if checkZ l r ≠ 0 then checkZ l r else if l.any (lowB ce t.p) = true then 9
 else if (ts.take i).any (fun u => decide (u.p = t.p)) = true then 10 else 0
theorem zJQ {r : jF} : ∀ {l : List Opn} {s : NS}, vI l s r = 0 -> ∀ o ∈ l, opZ o r = 0
 | [], _, _, o, h => by simp at h
 | x :: l, s, hz, o, h => by
  unfold vI at hz
  by_cases hx : opZ x r = 0
  ·rw [if_pos hx] at hz
   rcases List.mem_cons.1 h with rfl | h
   ·exact hx
   ·cases hs : jO s x.k x.a with
    | none => rw [hs] at hz; simp at hz
    | some t => rw [hs] at hz; exact zJQ hz o h
  ·rw [if_neg hx] at hz
   exact absurd hz hx
theorem zDP {l : List Opn} {r : jF} (h : checkZ l r = 0) : ∀ o ∈ l, opZ o r = 0 := by
 unfold checkZ at h
 by_cases h0 : l.length = 0
 ·rw [if_pos h0] at h; simp at h
 ·rw [if_neg h0] at h
  by_cases h1 : 64 < l.length
  ·rw [if_pos h1] at h; simp at h
  ·rw [if_neg h1] at h
   exact zJQ h
theorem zL2 {o : Opn} {r : jF} (h : opZ o r = 0) (hk : o.k = 5) (hl : 0 <= r.l) : 0 <= o.a /\ o.a < r.l := by
 obtain ⟨k, a, b⟩ := o
 simp only at hk
 subst hk
 unfold opZ at h
 simp [opV, loA, hiA, hiB, inB] at h
 simp only
 omega
set_option maxHeartbeats 2000000 in
theorem zGF {w : World} (hw : Words w) {c : jD} {d : jL} (hd : ObjsAt w c d) {ts : List jA} (hT : TasksAt w c.ta ts) (hr : c.room.ok) {i : Nat} {t : jA} {l : List Opn} (ht : ts[i]? = some t) (hl : OpnRow w t.o.A l) (hn : l.length = t.o.n) (hm : t.o.n <= 1000000) :
  Calls Tryz.prog 141 #[c.val, .int .i64 i] w (GrowI (taskZ c.room d.ce ts i t l) w) := by
 have hO := ((Only.refl (fun _ => False) w).alloc (.cells c.cells.toArray 27)).alloc (.cells t.cells.toArray 63)
 have hB := zAF (zAB w (.cells c.cells.toArray 27) rfl) (.cells t.cells.toArray 63)
 have hB2 := zAB (w.alloc (.cells c.cells.toArray 27)) (.cells t.cells.toArray 63) (X := w.heap.size + 1) (by simp)
 obtain ⟨W2, hW2⟩ : ∃ W2, W2 = (w.alloc (.cells c.cells.toArray 27)).alloc (.cells t.cells.toArray 63) := ⟨_, rfl⟩
 have q1 := zh (fun (W : World) => zIK W t)
 have q2 := zh (fun (W : World) => zJO c W)
 have q3 := zh (fun (W : World) (h : Only (fun _ => False) w W) => check_any (cap := t.o.cap) (hw.new h) (hl.new h) c.room hr)
 have q4 := zh (fun (W : World) (h : Only (fun _ => False) w W) (h5 : checkZ l c.room = 0) => zFC (hd.ce.new h) hd.s.2.2.1 (hl.new h) hn hm (fun o ho hk => by
  have h1 := zL2 (zDP h5 o ho) hk (Int.natCast_nonneg _)
  have h2 := hd.ce.len
  have h3 : c.room.l = (c.ce.n : Int) := rfl
  omega))
 have hik : i < c.ta.n := by have := (List.getElem?_eq_some_iff.1 ht).1; have := hT.len; omega
 have q5 := zh (fun (W : World) (h : Only (fun _ => False) w W) => zLY ((hT.new h).take (i := i) (Nat.le_of_lt hik)) (by have := hd.s.2.2.2.2; show i <= 1000000; omega) t.p)
 obtain ⟨z, hz⟩ : ∃ z, z = checkZ l c.room := ⟨_, rfl⟩
 obtain ⟨b1, hb1⟩ : ∃ b, b = t.okB := ⟨_, rfl⟩
 obtain ⟨b2, hb2⟩ : ∃ b, b = l.any (lowB d.ce t.p) := ⟨_, rfl⟩
 obtain ⟨b3, hb3⟩ : ∃ b, b = (ts.take i).any (fun u => decide (u.p = t.p)) := ⟨_, rfl⟩
 have hv := zh (show taskZ c.room d.ce ts i t l = if b1 = false then 5 else if z ≠ 0 then z else if b2 = true then 9 else if b3 = true then 10 else 0 by unfold taskZ; rw [<- hb1, <- hb2, <- hb3, <- hz])
 obtain ⟨V, hV⟩ : ∃ V, V = taskZ c.room d.ce ts i t l := ⟨_, rfl⟩
 have hV' := zh hV
 rw [hv.out] at hV'
 rw [<- hV]
 rw [show taskB t.p t.th t.pe t.de t.fr t.fl = t.okB from rfl, <- hb1] at q1
 rw [<- hz, hn] at q3
 rw [<- hz, <- hb2] at q4
 rw [<- hb3] at q5
 rw [show c.room.val = .agg #[.int .i64 c.mb.n, .int .i64 c.g, .int .i64 c.cn.n, .int .i64 c.ce.n] from rfl] at q2 q3
 rw [show c.val = .agg #[.int .i64 c.s, .int .i64 c.wy, .int .i64 c.h, .int .i64 c.mi, .slice c.mb.A c.mb.n c.mb.cap, .int .i64 c.g, .slice c.cn.A c.cn.n c.cn.cap, .slice c.ce.A c.ce.n c.ce.cap, .slice c.ta.A c.ta.n c.ta.cap, .slice c.li.A c.li.n c.li.cap] from rfl] at q2 ⊢
 rw [show t.val = .agg #[.int .i64 t.p, .int .i64 t.th, .int .i64 t.pe, .int .i64 t.de, .int .i64 t.fr, .int .i64 t.fl, .slice t.o.A t.o.n t.o.cap] from rfl] at q1 q4
 have e0 := zAA hB (i := 0) rfl
 have e1 := zAA hB (i := 1) rfl
 have e2 := zAA hB (i := 2) rfl
 have e3 := zAA hB (i := 3) rfl
 have e4 := zAA hB (i := 4) rfl
 have e5 := zAA hB (i := 5) rfl
 have e6 := zAA hB (i := 6) rfl
 have e7 := zAA hB (i := 7) rfl
 have e8 := zAA hB (i := 8) rfl
 have e9 := zAA hB (i := 9) rfl
 have f0 := zAA hB2 (i := 0) rfl
 have f1 := zAA hB2 (i := 1) rfl
 have f2 := zAA hB2 (i := 2) rfl
 have f3 := zAA hB2 (i := 3) rfl
 have f4 := zAA hB2 (i := 4) rfl
 have f5 := zAA hB2 (i := 5) rfl
 have f6 := zAA hB2 (i := 6) rfl
 have kD := zAG hB
 have hlt2 := zAG hB2
 rw [<- hW2] at e0 e1 e2 e3 e4 e5 e6 e7 e8 e9 f0 f1 f2 f3 f4 f5 f6 hO kD hlt2
 obtain ⟨bb, off, hA, hb, ⟨t0, t1, t2, t3, t4, t5, t6⟩⟩ := hT.at_ i t ht
 have xI := hT.cap
 have hs5 := hd.s.2.2.2.2
 unfold jD.cells jA.cells at hW2
 obtain ⟨P, th, pe, de, fr, fl, ⟨oA, on, oc⟩⟩ := t
 obtain ⟨s, wy, h, mi, ⟨mA, mn, mc⟩, g, ⟨cA, cn, cc⟩, ⟨eA, en, ec⟩, ⟨tA, tn, tc⟩, ⟨lA, ln, lc⟩⟩ := c
 simp only at *
 subst hA
 have jAi : (i : Int) < (tn : Int) := by omega
 have vH := zh hW2
 have hO' := zh hO
 clear hw hd hT hr ht hl hn hz hb1 hb2 hb3 hv hB hB2 hO hW2 hV
 go_enter Tryz.func141, Tryz.ntmps141
 go_wp2_with fail
 refine (q1.out _).mono ?_
 rintro e w1 ⟨rfl, hO1⟩
 rw [<- vH.out] at hO1
 replace e0 := hO1.cell e0 id
 replace e1 := hO1.cell e1 id
 replace e2 := hO1.cell e2 id
 replace e3 := hO1.cell e3 id
 replace e4 := hO1.cell e4 id
 replace e5 := hO1.cell e5 id
 replace e6 := hO1.cell e6 id
 replace e7 := hO1.cell e7 id
 replace e8 := hO1.cell e8 id
 replace e9 := hO1.cell e9 id
 replace f0 := hO1.cell f0 id
 replace f1 := hO1.cell f1 id
 replace f2 := hO1.cell f2 id
 replace f3 := hO1.cell f3 id
 replace f4 := hO1.cell f4 id
 replace f5 := hO1.cell f5 id
 replace f6 := hO1.cell f6 id
 replace kD := Nat.lt_of_lt_of_le kD hO1.size
 replace hlt2 := Nat.lt_of_lt_of_le hlt2 hO1.size
 have hP1 := zh (hO'.out.trans' hO1)
 clear hO1 q1 hO' vH t0 t1 t2 t3 t4 t5 t6
 cases b1
 ·have hv := zh (show V = 5 by rw [hV'.out]; simp)
  go_wp2
  go_ret
  exact ⟨zAI hv.out.symm, hP1.out⟩
 ·go_wp2
  have p0 := zAK e0
  have p1 := zAK e1
  have p2 := zAK e2
  have p3 := zAK e3
  have p4 := zAK e4
  have p5 := zAK e5
  have p6 := zAK e6
  have p7 := zAK e7
  have p8 := zAK e8
  have p9 := zAK e9
  have g6 := zAK f6
  have hex := zGA w1
  have r2 := zh (fun v : Wd w1 => Calls.wd (x := v) (q2.out v.W))
  have r3 := zh (fun v : Wd w1 => Calls.wd (x := v) (q3.out v.W (hP1.out.trans' v.ok)))
  refine zAW (by kernel_rfl) (by kernel_rfl) ?_
  repeat (go_big_quiet_step (first | (go_at_call 200; exact r2.out _) | (go_at_call 202; exact r3.out _)))
  refine wpQuiet_nil ?_
  rintro _ ⟨v, rfl⟩
  have hP2 := zh (hP1.out.trans' v.ok)
  clear p0 p1 p2 p3 p4 p5 p6 p7 p8 p9 g6 hex r2 r3 q2 q3
  replace e0 := v.ok.cell e0 id
  replace e1 := v.ok.cell e1 id
  replace e2 := v.ok.cell e2 id
  replace e3 := v.ok.cell e3 id
  replace e4 := v.ok.cell e4 id
  replace e5 := v.ok.cell e5 id
  replace e6 := v.ok.cell e6 id
  replace e7 := v.ok.cell e7 id
  replace e8 := v.ok.cell e8 id
  replace e9 := v.ok.cell e9 id
  replace f0 := v.ok.cell f0 id
  replace f1 := v.ok.cell f1 id
  replace f2 := v.ok.cell f2 id
  replace f3 := v.ok.cell f3 id
  replace f4 := v.ok.cell f4 id
  replace f5 := v.ok.cell f5 id
  replace f6 := v.ok.cell f6 id
  replace kD := Nat.lt_of_lt_of_le kD v.ok.size
  replace hlt2 := Nat.lt_of_lt_of_le hlt2 v.ok.size
  obtain ⟨w2, hw2⟩ := v
  simp only at *
  clear hP1 hw2
  by_cases hz0 : z = 0
  ·subst hz0
   have hv := zh (show V = if b2 = true then 9 else if b3 = true then 10 else 0 by rw [hV'.out]; simp)
   clear hV'
   have r4 := zh (q4.out w2 hP2.out rfl)
   clear q4
   go_wp2_with fail
   refine (r4.out).mono ?_
   rintro e w3 ⟨rfl, hO3⟩
   replace e0 := hO3.cell e0 id
   replace e1 := hO3.cell e1 id
   replace e2 := hO3.cell e2 id
   replace e3 := hO3.cell e3 id
   replace e4 := hO3.cell e4 id
   replace e5 := hO3.cell e5 id
   replace e6 := hO3.cell e6 id
   replace e7 := hO3.cell e7 id
   replace e8 := hO3.cell e8 id
   replace e9 := hO3.cell e9 id
   replace f0 := hO3.cell f0 id
   replace f1 := hO3.cell f1 id
   replace f2 := hO3.cell f2 id
   replace f3 := hO3.cell f3 id
   replace f4 := hO3.cell f4 id
   replace f5 := hO3.cell f5 id
   replace f6 := hO3.cell f6 id
   replace kD := Nat.lt_of_lt_of_le kD hO3.size
   replace hlt2 := Nat.lt_of_lt_of_le hlt2 hO3.size
   have hP3 := zh (hP2.out.trans' hO3)
   clear hO3 hP2 r4
   cases b2
   rotate_left
   ·have hv2 := zh (show V = 9 by rw [hv.out]; simp)
    go_wp2
    go_ret
    exact ⟨zAI hv2.out.symm, hP3.out⟩
   ·go_wp2
    have p0 := zAK e0
    have p1 := zAK e1
    have p2 := zAK e2
    have p3 := zAK e3
    have p4 := zAK e4
    have p5 := zAK e5
    have p6 := zAK e6
    have p7 := zAK e7
    have p8 := zAK e8
    have p9 := zAK e9
    have g0 := zAK f0
    have hex := zGA w3
    have r5 := zh (fun v : Wd w3 => Calls.wd (x := v) (q5.out v.W (hP3.out.trans' v.ok)))
    have hit : (i : Int) <= (tn : Int) := by omega
    have hic : (i : Int) <= (tc : Int) := by omega
    refine zAW (by kernel_rfl) (by kernel_rfl) ?_
    repeat (go_big_quiet_step (first | (go_at_call 204; exact r5.out _)))
    refine wpQuiet_nil ?_
    rintro _ ⟨v, rfl⟩
    have hP4 := zh (hP3.out.trans' v.ok)
    clear p0 p1 p2 p3 p4 p5 p6 p7 p8 p9 g0 hex r5
    cases b3
    ·have hv2 := zh (show V = 0 by rw [hv.out]; simp)
     go_wp2
     go_ret
     exact ⟨zAI hv2.out.symm, hP4.out⟩
    ·have hv2 := zh (show V = 10 by rw [hv.out]; simp)
     go_wp2
     go_ret
     exact ⟨zAI hv2.out.symm, hP4.out⟩
  ·have hv := zh (show V = z by rw [hV'.out]; simp [hz0])
   have hzb : (z != 0) = true := by simp [hz0]
   go_wp2
   go_ret
   exact ⟨zAI hv.out.symm, hP2.out⟩
def firstNZ (f : Nat -> Int) : Nat -> Int
 | 0 => 0
 | n + 1 => if firstNZ f n ≠ 0 then firstNZ f n else f n
theorem zBR {f : Nat -> Int} : ∀ {n : Nat}, (∀ j, j < n -> f j = 0) -> firstNZ f n = 0
 | 0, _ => rfl
 | n + 1, h => by
  unfold firstNZ
  rw [zBR (fun j hj => h j (by omega)), if_neg (by simp)]
  exact h n (by omega)
theorem zDQ {f : Nat -> Int} {k : Nat} (h : ∀ j, j < k -> f j = 0) (hk : f k ≠ 0) : ∀ {n : Nat}, k < n -> firstNZ f n = f k
 | 0, hn => by omega
 | n + 1, hn => by
  unfold firstNZ
  by_cases hkn : k = n
  ·subst hkn
   rw [zBR h, if_neg (by simp)]
  ·rw [zDQ h hk (n := n) (by omega), if_pos hk]
abbrev Tks := List (jA × List Opn)
def Tks.ts (pl : Tks) : List jA := pl.map Prod.fst
def taskAt (r : jF) (ce : List Int) (pl : Tks) (i : Nat) : Int := match pl[i]? with
 | some (t, l) => taskZ r ce pl.ts i t l
 | none => 0
def confZ (c : jD) (d : jL) (pl : Tks) : Int :=
 if machB c.s c.wy c.h c.mi = false then 5 else if kQ c = true then 4 else if c.ta.n = 0 ∨ c.g < 0 then 1 else if objB c d = false then 5
 else firstNZ (taskAt c.room d.ce pl) c.ta.n
structure ProgsAt (w : World) (pl : Tks) : Prop where
 row : ∀ (i : Nat) t l, pl[i]? = some (t, l) -> OpnRow w t.o.A l /\ l.length = t.o.n /\ t.o.n <= 1000000 /\ t.o.n <= t.o.cap
theorem ProgsAt.new {w w' : World} {pl : Tks} (h : ProgsAt w pl) (ho : Only (fun _ => False) w w') : ProgsAt w' pl := ⟨fun i t l ht => ⟨(h.row i t l ht).1.new ho, (h.row i t l ht).2⟩⟩
structure ConfAt (w : World) (c : jD) (d : jL) (pl : Tks) : Prop where
 o : ObjsAt w c d
 t : TasksAt w c.ta pl.ts
 p : ProgsAt w pl
theorem ConfAt.new {w w' : World} {c : jD} {d : jL} {pl : Tks} (h : ConfAt w c d pl) (ho : Only (fun _ => False) w w') : ConfAt w' c d pl := ⟨h.o.new ho, h.t.new ho, h.p.new ho⟩
theorem zL3 {c : jD} (h1 : kQ c = false) (h2 : ¬ c.g < 0) : c.room.ok := by
 unfold kQ at h1
 simp only [decide_eq_false_iff_not] at h1
 unfold jF.ok jD.room
 simp only
 omega
theorem zB3 {r : jF} {ce : List Int} {pl : Tks} {i : Nat} {t : jA} {l : List Opn} (h : pl[i]? = some (t, l)) : taskAt r ce pl i = taskZ r ce pl.ts i t l := by unfold taskAt; rw [h]
theorem zIN {pl : Tks} {i : Nat} {t : jA} {l : List Opn} (h : pl[i]? = some (t, l)) : pl.ts[i]? = some t := by unfold Tks.ts; rw [List.getElem?_map, h]; rfl
set_option maxHeartbeats 4000000 in
theorem zGG {w : World} (hw : Words w) {c : jD} {d : jL} {pl : Tks} (hc : ConfAt w c d pl) : Calls Tryz.prog 87 #[c.val] w (GrowI (confZ c d pl) w) := by
 have hO := (Only.refl (fun _ => False) w).alloc (.cells c.cells.toArray 27)
 have hB := zAB w (.cells c.cells.toArray 27) rfl
 obtain ⟨W1, hW1⟩ : ∃ W1, W1 = w.alloc (.cells c.cells.toArray 27) := ⟨_, rfl⟩
 have q1 := zh (fun (W : World) => zIJ W c.s c.wy c.h c.mi)
 have q2 := zh (fun (W : World) => zOK c W)
 have q3 := zh (fun (W : World) (h : Only (fun _ => False) w W) => zHD (hc.o.new h))
 have q4 := zh (fun (h1 : c.room.ok) (W : World) (h : Only (fun _ => False) w W) (i : Nat) (hi : i < c.ta.n) => show Calls Tryz.prog 141 #[c.val, .int .i64 i] W (GrowI (taskAt c.room d.ce pl i) W) by
  have hlen := hc.t.len
  unfold Tks.ts at hlen
  rw [List.length_map] at hlen
  obtain ⟨⟨t, l⟩, ht⟩ : ∃ x, pl[i]? = some x := ⟨_, List.getElem?_eq_getElem (by omega)⟩
  rw [zB3 ht]
  obtain ⟨p1, p2, p3, p4⟩ := hc.p.row i t l ht
  exact zGF (hw.new h) (hc.o.new h) (hc.t.new h) h1 (zIN ht) (p1.new h) p2 p3)
 have hrk := zh (fun (h1 : kQ c = false) (h2 : ¬ c.g < 0) => zL3 h1 h2)
 obtain ⟨b1, hb1⟩ : ∃ b, b = machB c.s c.wy c.h c.mi := ⟨_, rfl⟩
 obtain ⟨b2, hb2⟩ : ∃ b, b = kQ c := ⟨_, rfl⟩
 obtain ⟨b3, hb3⟩ : ∃ b, b = objB c d := ⟨_, rfl⟩
 obtain ⟨V, hV⟩ : ∃ V, V = confZ c d pl := ⟨_, rfl⟩
 obtain ⟨f, hf⟩ : ∃ f, f = taskAt c.room d.ce pl := ⟨_, rfl⟩
 rw [<- hV]
 unfold confZ at hV
 rw [<- hb1, <- hb2, <- hb3, <- hf] at hV
 rw [<- hb1] at q1
 rw [<- hb2] at q2 hrk
 rw [<- hb3] at q3
 rw [<- hf] at q4
 rw [show c.val = .agg #[.int .i64 c.s, .int .i64 c.wy, .int .i64 c.h, .int .i64 c.mi, .slice c.mb.A c.mb.n c.mb.cap, .int .i64 c.g, .slice c.cn.A c.cn.n c.cn.cap, .slice c.ce.A c.ce.n c.ce.cap, .slice c.ta.A c.ta.n c.ta.cap, .slice c.li.A c.li.n c.li.cap] from rfl] at q2 q3 q4 ⊢
 have e0 := zAA hB (i := 0) rfl
 have e1 := zAA hB (i := 1) rfl
 have e2 := zAA hB (i := 2) rfl
 have e3 := zAA hB (i := 3) rfl
 have e4 := zAA hB (i := 4) rfl
 have e5 := zAA hB (i := 5) rfl
 have e6 := zAA hB (i := 6) rfl
 have e7 := zAA hB (i := 7) rfl
 have e8 := zAA hB (i := 8) rfl
 have e9 := zAA hB (i := 9) rfl
 have kD := zAG hB
 rw [<- hW1] at e0 e1 e2 e3 e4 e5 e6 e7 e8 e9 hO kD
 have hs5 := hc.o.s.2.2.2.2
 unfold jD.cells at hW1
 generalize c.room.ok = RO at q4 hrk
 obtain ⟨s, wy, h, mi, ⟨mA, mn, mc⟩, g, ⟨cA, cn, cc⟩, ⟨eA, en, ec⟩, ⟨tA, tn, tc⟩, ⟨lA, ln, lc⟩⟩ := c
 simp only at *
 have wX := zh hW1
 have hO' := zh hO
 have hV' := zh hV
 clear hw hc hB hO hW1 hb1 hb2 hb3 hV hf
 go_enter Tryz.func87, Tryz.ntmps87
 go_wp2_with fail
 refine (q1.out _).mono ?_
 rintro e w1 ⟨rfl, hO1⟩
 rw [<- wX.out] at hO1
 replace e0 := hO1.cell e0 id
 replace e1 := hO1.cell e1 id
 replace e2 := hO1.cell e2 id
 replace e3 := hO1.cell e3 id
 replace e4 := hO1.cell e4 id
 replace e5 := hO1.cell e5 id
 replace e6 := hO1.cell e6 id
 replace e7 := hO1.cell e7 id
 replace e8 := hO1.cell e8 id
 replace e9 := hO1.cell e9 id
 replace kD := Nat.lt_of_lt_of_le kD hO1.size
 have hP1 := zh (hO'.out.trans' hO1)
 clear hO1 q1 hO' wX
 cases b1
 ·have hv := zh (show V = 5 by rw [hV'.out]; simp)
  go_wp2
  go_ret
  exact ⟨zAI hv.out.symm, hP1.out⟩
 ·go_wp2_with fail
  refine (q2.out _).mono ?_
  rintro e w2 ⟨rfl, hO2⟩
  replace e0 := hO2.cell e0 id
  replace e1 := hO2.cell e1 id
  replace e2 := hO2.cell e2 id
  replace e3 := hO2.cell e3 id
  replace e4 := hO2.cell e4 id
  replace e5 := hO2.cell e5 id
  replace e6 := hO2.cell e6 id
  replace e7 := hO2.cell e7 id
  replace e8 := hO2.cell e8 id
  replace e9 := hO2.cell e9 id
  replace kD := Nat.lt_of_lt_of_le kD hO2.size
  have hP2 := zh (hP1.out.trans' hO2)
  clear hO2 q2 hP1
  cases b2
  rotate_left
  ·have hv := zh (show V = 4 by rw [hV'.out]; simp)
   go_wp2
   go_ret
   exact ⟨zAI hv.out.symm, hP2.out⟩
  ·by_cases hn0 : tn = 0
   ·subst hn0
    have hv := zh (show V = 1 by rw [hV'.out]; simp)
    go_wp2
    go_ret
    exact ⟨zAI hv.out.symm, hP2.out⟩
   ·by_cases hg : g < 0
    ·have hv := zh (show V = 1 by rw [hV'.out]; simp [hg])
     go_wp2
     go_ret
     exact ⟨zAI hv.out.symm, hP2.out⟩
    ·have q5 := zh (q4.out (hrk.out rfl (by omega)))
     clear q4 hrk
     have hnb : ((tn : Int) == 0) = false := by simp [hn0]
     have jFh : ¬ (tn : Int) = 0 := by omega
     have hgb : ¬ g < 0 := hg
     go_wp2_with fail
     refine (q3.out _ hP2.out).mono ?_
     rintro e w3 ⟨rfl, hO3⟩
     replace e0 := hO3.cell e0 id
     replace e1 := hO3.cell e1 id
     replace e2 := hO3.cell e2 id
     replace e3 := hO3.cell e3 id
     replace e4 := hO3.cell e4 id
     replace e5 := hO3.cell e5 id
     replace e6 := hO3.cell e6 id
     replace e7 := hO3.cell e7 id
     replace e8 := hO3.cell e8 id
     replace e9 := hO3.cell e9 id
     replace kD := Nat.lt_of_lt_of_le kD hO3.size
     have hP3 := zh (hP2.out.trans' hO3)
     clear hO3 q3 hP2
     cases b3
     ·have hv := zh (show V = 5 by rw [hV'.out, if_neg (by simp), if_neg (by simp), if_neg (by omega)]; simp)
      go_wp2
      go_ret
      exact ⟨zAI hv.out.symm, hP3.out⟩
     ·have hv := zh (show V = firstNZ f tn by rw [hV'.out, if_neg (by simp), if_neg (by simp), if_neg (by omega)]; simp)
      clear hV'
      go_wp2
      go_loopw [30] (fun i wr => ∃ k : Nat, k <= tn /\ i = .int .i64 k /\ (∀ j : Nat, j < k -> f j = 0) /\ Only (fun _ => False) w3 wr) (fun i _ => tn - (intOf i).toNat)
      case atStart => exact ⟨0, Nat.zero_le _, rfl, (fun j hj => by omega), Only.refl _ w3⟩
      case round =>
       obtain ⟨k, hk, rfl, hall, hOk⟩ := hrel
       replace e0 := hOk.cell e0 id
       replace e1 := hOk.cell e1 id
       replace e2 := hOk.cell e2 id
       replace e3 := hOk.cell e3 id
       replace e4 := hOk.cell e4 id
       replace e5 := hOk.cell e5 id
       replace e6 := hOk.cell e6 id
       replace e7 := hOk.cell e7 id
       replace e8 := hOk.cell e8 id
       replace e9 := hOk.cell e9 id
       replace kD := Nat.lt_of_lt_of_le kD hOk.size
       have hPk := zh (hP3.out.trans' hOk)
       have yO := zh hOk
       have jT := zh hall
       clear hall hOk
       by_cases hkn : k < tn
       ·have vR : (k : Int) < (tn : Int) := by omega
        obtain ⟨z, hz⟩ : ∃ z, z = f k := ⟨_, rfl⟩
        have q6 := q5.out wr hPk.out k hkn
        rw [<- hz] at q6
        have q6' := zh q6
        have hz' := zh hz
        clear q6 hz
        go_wp2_with fail
        refine (q6'.out).mono ?_
        rintro e w4 ⟨rfl, hO4⟩
        replace e0 := hO4.cell e0 id
        replace e1 := hO4.cell e1 id
        replace e2 := hO4.cell e2 id
        replace e3 := hO4.cell e3 id
        replace e4 := hO4.cell e4 id
        replace e5 := hO4.cell e5 id
        replace e6 := hO4.cell e6 id
        replace e7 := hO4.cell e7 id
        replace e8 := hO4.cell e8 id
        replace e9 := hO4.cell e9 id
        replace kD := Nat.lt_of_lt_of_le kD hO4.size
        have hP4 := zh (hPk.out.trans' hO4)
        have jCc := zh (yO.out.trans' hO4)
        clear hO4 q6'
        by_cases hz0 : z = 0
        ·subst hz0
         have hnx := zh (show ∀ j : Nat, j < k + 1 -> f j = 0 from fun j hj => by
          by_cases hjk : j < k
          ·exact jT.out j hjk
          ·obtain rfl : j = k := by omega
           exact hz'.out.symm)
         go_wp2
         go_roundw
         case rel => exact ⟨k + 1, by omega, by go_num, hnx.out, jCc.out⟩
         case measure => simp [intOf]; omega
        ·have hv2 := zh (show V = z by rw [hv.out, zDQ jT.out (by rw [<- hz'.out]; exact hz0) hkn, <- hz'.out])
         have hzb : (z != 0) = true := by simp [hz0]
         go_wp2
         go_ret
         exact ⟨zAI hv2.out.symm, hP4.out⟩
       ·obtain rfl : k = tn := by omega
        have hv2 := zh (show V = 0 by rw [hv.out, zBR jT.out])
        go_wp2
        go_ret
        exact ⟨zAI hv2.out.symm, hPk.out⟩
