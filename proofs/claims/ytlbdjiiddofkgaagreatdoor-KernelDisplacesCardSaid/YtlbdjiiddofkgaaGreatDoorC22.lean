import Derived.Test.YtlbdjiiddofkgaaGreatDoorC20
import Derived.Test.YtlbdjiiddofkgaaGreatDoorC21
set_option maxRecDepth 100000
namespace Go.Proofs.YtlbdjiiddofkgaaGreatDoor
open Go Go.RowKit
theorem zL4 {t : jA} {b1 b2 b3 b4 b5 b6 : Bool} (e1 : b1 = inB 0 63 t.p) (e2 : b2 = inB t.p 63 t.th) (e3 : b3 = inB 1 1048576 t.pe) (e4 : b4 = inB 1 t.pe t.de) (e5 : b5 = inB 0 4096 t.fr) (e6 : b6 = inB 0 1048576 t.fl) : t.okB = (b1 && b2 && b3 && b4 && b5 && b6) := by
 unfold jA.okB taskB
 rw [e1, e2, e3, e4, e5, e6]
set_option maxHeartbeats 4000000 in
theorem zL5 {w : World} {c : jD} {d : jL} (hd : ObjsAt w c d) {ts : List jA} (hT : TasksAt w c.ta ts) (hr : c.room.ok) {i : Nat} {t : jA} {l : List Opn} (ht : ts[i]? = some t) (hl : OpnRow w t.o.A l) (hn : l.length = t.o.n) (hm : t.o.n <= 1000000) (hcp : t.o.n <= t.o.cap) :
  Calls Tryz.prog 41 #[c.val, .int .i64 i, t.val] w (GrowI (taskZ c.room d.ce ts i t l) w) := by
 have hO := ((Only.refl (fun _ => False) w).alloc (.cells c.cells.toArray 27)).alloc (.cells t.cells.toArray 63)
 have hB := zAF (zAB w (.cells c.cells.toArray 27) rfl) (.cells t.cells.toArray 63)
 have hB2 := zAB (w.alloc (.cells c.cells.toArray 27)) (.cells t.cells.toArray 63) (X := w.heap.size + 1) (by simp)
 obtain ⟨W2, hW2⟩ : ∃ W2, W2 = (w.alloc (.cells c.cells.toArray 27)).alloc (.cells t.cells.toArray 63) := ⟨_, rfl⟩
 obtain ⟨b1, x1⟩ : ∃ b, b = inB 0 63 t.p := ⟨_, rfl⟩
 obtain ⟨b2, x2⟩ : ∃ b, b = inB t.p 63 t.th := ⟨_, rfl⟩
 obtain ⟨b3, x3⟩ : ∃ b, b = inB 1 1048576 t.pe := ⟨_, rfl⟩
 obtain ⟨b4, x4⟩ : ∃ b, b = inB 1 t.pe t.de := ⟨_, rfl⟩
 obtain ⟨b5, x5⟩ : ∃ b, b = inB 0 4096 t.fr := ⟨_, rfl⟩
 obtain ⟨b6, x6⟩ : ∃ b, b = inB 0 1048576 t.fl := ⟨_, rfl⟩
 have m1 := zh (fun W => zBP W t.p 0 63)
 have m2 := zh (fun W => zBP W t.th t.p 63)
 have m3 := zh (fun W => zBP W t.pe 1 1048576)
 have m4 := zh (fun W => zBP W t.de 1 t.pe)
 have m5 := zh (fun W => zBP W t.fr 0 4096)
 have m6 := zh (fun W => zBP W t.fl 0 1048576)
 rw [<- x1] at m1
 rw [<- x2] at m2
 rw [<- x3] at m3
 rw [<- x4] at m4
 rw [<- x5] at m5
 rw [<- x6] at m6
 have hok := zL4 x1 x2 x3 x4 x5 x6
 have q3 := zh (fun (W : World) (h : Only (fun _ => False) w W) => zKQ (cap := t.o.cap) (hl.new h) (by rw [hn]; exact hcp) c.room hr)
 have hlk := zh (fun (h5 : checkZ l c.room = 0) (o : Opn) (ho : o ∈ l) (hk : o.k = 5) => show 0 <= o.a /\ o.a < d.ce.length by
  have h1 := zL2 (zDP h5 o ho) hk (Int.natCast_nonneg _)
  have h2 := hd.ce.len
  have h3 : c.room.l = (c.ce.n : Int) := rfl
  omega)
 have hik : i < c.ta.n := by have := (List.getElem?_eq_some_iff.1 ht).1; have := hT.len; omega
 obtain ⟨z, hz⟩ : ∃ z, z = checkZ l c.room := ⟨_, rfl⟩
 obtain ⟨V, hV⟩ : ∃ V, V = taskZ c.room d.ce ts i t l := ⟨_, rfl⟩
 rw [<- hV]
 have hV' := zh (show V = if (b1 && b2 && b3 && b4 && b5 && b6) = false then 5 else if z ≠ 0 then z else if l.any (lowB d.ce t.p) = true then 9 else if (ts.take i).any (fun u => decide (u.p = t.p)) = true then 10 else 0 by rw [hV]; unfold taskZ; rw [<- hz, hok])
 rw [<- hz, hn] at q3
 rw [<- hz] at hlk
 have e0 := zAA hB (i := 0) rfl
 have e1 := zAA hB (i := 1) rfl
 have e2 := zAA hB (i := 2) rfl
 have e3 := zAA hB (i := 3) rfl
 have e4 := zAA hB (i := 4) rfl
 have e5 := zAA hB (i := 5) rfl
 have e6 := zAA hB (i := 6) rfl
 have e7 := zAA hB (i := 7) rfl
 have e8 := zAA hB (i := 8) rfl
 have e9 := zAA hB (i := 9) rfl
 have f0 := zAA hB2 (i := 0) rfl
 have f1 := zAA hB2 (i := 1) rfl
 have f2 := zAA hB2 (i := 2) rfl
 have f3 := zAA hB2 (i := 3) rfl
 have f4 := zAA hB2 (i := 4) rfl
 have f5 := zAA hB2 (i := 5) rfl
 have f6 := zAA hB2 (i := 6) rfl
 have kD := zAG hB
 have hlt2 := zAG hB2
 rw [<- hW2] at e0 e1 e2 e3 e4 e5 e6 e7 e8 e9 f0 f1 f2 f3 f4 f5 f6 hO kD hlt2
 have hT' := zh hT
 have hl' := zh hl
 have hC' := zh hd.ce
 have xI := hT.cap
 have hs5 := hd.s.2.2.2.2
 have hs3 := hd.s.2.2.1
 rw [show c.val = .agg #[.int .i64 c.s, .int .i64 c.wy, .int .i64 c.h, .int .i64 c.mi, .slice c.mb.A c.mb.n c.mb.cap, .int .i64 c.g, .slice c.cn.A c.cn.n c.cn.cap, .slice c.ce.A c.ce.n c.ce.cap, .slice c.ta.A c.ta.n c.ta.cap, .slice c.li.A c.li.n c.li.cap] from rfl]
 rw [show t.val = .agg #[.int .i64 t.p, .int .i64 t.th, .int .i64 t.pe, .int .i64 t.de, .int .i64 t.fr, .int .i64 t.fl, .slice t.o.A t.o.n t.o.cap] from rfl]
 rw [show c.room = ⟨c.mb.n, c.g, c.cn.n, c.ce.n⟩ from rfl] at q3
 unfold jD.cells jA.cells at hW2
 obtain ⟨P, th, pe, de, fr, fl, ⟨oA, on, oc⟩⟩ := t
 obtain ⟨s, wy, h, mi, ⟨mA, mn, mc⟩, g, ⟨cA, cn, cc⟩, ⟨eA, en, ec⟩, ⟨tA, tn, tc⟩, ⟨lA, ln, lc⟩⟩ := c
 simp only at *
 have jAi : (i : Int) < (tn : Int) := by omega
 have vH := zh hW2
 have hO' := zh hO
 have jAk := zh hn
 clear hd hT hr ht hl hn hz hB hB2 hO hW2 hV x1 x2 x3 x4 x5 x6 hok
 cases b1
 ·skip
  have hv := zh (show V = 5 by rw [hV'.out]; simp)
  go_enter Tryz.func41, Tryz.ntmps41
  go_wp2_with fail
  refine (m1.out _).mono ?_
  rintro e w' ⟨rfl, rfl⟩
  rw [<- vH.out]
  go_wp2
  go_ret
  exact ⟨zAI hv.out.symm, hO'.out⟩
 ·skip
  cases b2
  ·skip
   have hv := zh (show V = 5 by rw [hV'.out]; simp)
   go_enter Tryz.func41, Tryz.ntmps41
   go_wp2_with fail
   refine (m1.out _).mono ?_
   rintro e w' ⟨rfl, rfl⟩
   rw [<- vH.out]
   go_wp2_with fail
   refine (m2.out _).mono ?_
   rintro e w' ⟨rfl, rfl⟩
   go_wp2
   go_ret
   exact ⟨zAI hv.out.symm, hO'.out⟩
  ·skip
   cases b3
   ·skip
    have hv := zh (show V = 5 by rw [hV'.out]; simp)
    go_enter Tryz.func41, Tryz.ntmps41
    go_wp2_with fail
    refine (m1.out _).mono ?_
    rintro e w' ⟨rfl, rfl⟩
    rw [<- vH.out]
    go_wp2_with fail
    refine (m2.out _).mono ?_
    rintro e w' ⟨rfl, rfl⟩
    go_wp2_with fail
    refine (m3.out _).mono ?_
    rintro e w' ⟨rfl, rfl⟩
    go_wp2
    go_ret
    exact ⟨zAI hv.out.symm, hO'.out⟩
   ·skip
    cases b4
    ·skip
     have hv := zh (show V = 5 by rw [hV'.out]; simp)
     go_enter Tryz.func41, Tryz.ntmps41
     go_wp2_with fail
     refine (m1.out _).mono ?_
     rintro e w' ⟨rfl, rfl⟩
     rw [<- vH.out]
     go_wp2_with fail
     refine (m2.out _).mono ?_
     rintro e w' ⟨rfl, rfl⟩
     go_wp2_with fail
     refine (m3.out _).mono ?_
     rintro e w' ⟨rfl, rfl⟩
     go_wp2_with fail
     refine (m4.out _).mono ?_
     rintro e w' ⟨rfl, rfl⟩
     go_wp2
     go_ret
     exact ⟨zAI hv.out.symm, hO'.out⟩
    ·skip
     cases b5
     ·skip
      have hv := zh (show V = 5 by rw [hV'.out]; simp)
      go_enter Tryz.func41, Tryz.ntmps41
      go_wp2_with fail
      refine (m1.out _).mono ?_
      rintro e w' ⟨rfl, rfl⟩
      rw [<- vH.out]
      go_wp2_with fail
      refine (m2.out _).mono ?_
      rintro e w' ⟨rfl, rfl⟩
      go_wp2_with fail
      refine (m3.out _).mono ?_
      rintro e w' ⟨rfl, rfl⟩
      go_wp2_with fail
      refine (m4.out _).mono ?_
      rintro e w' ⟨rfl, rfl⟩
      go_wp2_with fail
      refine (m5.out _).mono ?_
      rintro e w' ⟨rfl, rfl⟩
      go_wp2
      go_ret
      exact ⟨zAI hv.out.symm, hO'.out⟩
     ·skip
      cases b6
      ·skip
       have hv := zh (show V = 5 by rw [hV'.out]; simp)
       go_enter Tryz.func41, Tryz.ntmps41
       go_wp2_with fail
       refine (m1.out _).mono ?_
       rintro e w' ⟨rfl, rfl⟩
       rw [<- vH.out]
       go_wp2_with fail
       refine (m2.out _).mono ?_
       rintro e w' ⟨rfl, rfl⟩
       go_wp2_with fail
       refine (m3.out _).mono ?_
       rintro e w' ⟨rfl, rfl⟩
       go_wp2_with fail
       refine (m4.out _).mono ?_
       rintro e w' ⟨rfl, rfl⟩
       go_wp2_with fail
       refine (m5.out _).mono ?_
       rintro e w' ⟨rfl, rfl⟩
       go_wp2_with fail
       refine (m6.out _).mono ?_
       rintro e w' ⟨rfl, rfl⟩
       go_wp2
       go_ret
       exact ⟨zAI hv.out.symm, hO'.out⟩
      ·skip
       go_enter Tryz.func41, Tryz.ntmps41
       go_wp2_with fail
       refine (m1.out _).mono ?_
       rintro e w' ⟨rfl, rfl⟩
       rw [<- vH.out]
       go_wp2_with fail
       refine (m2.out _).mono ?_
       rintro e w' ⟨rfl, rfl⟩
       go_wp2_with fail
       refine (m3.out _).mono ?_
       rintro e w' ⟨rfl, rfl⟩
       go_wp2_with fail
       refine (m4.out _).mono ?_
       rintro e w' ⟨rfl, rfl⟩
       go_wp2_with fail
       refine (m5.out _).mono ?_
       rintro e w' ⟨rfl, rfl⟩
       go_wp2_with fail
       refine (m6.out _).mono ?_
       rintro e w' ⟨rfl, rfl⟩
       have hv := zh (show V = if z ≠ 0 then z else if l.any (lowB d.ce P) = true then 9 else if (ts.take i).any (fun u => decide (u.p = P)) = true then 10 else 0 by rw [hV'.out]; simp)
       clear m1 m2 m3 m4 m5 m6 hV' vH
       go_wp2_with fail
       refine (q3.out _ hO'.out).mono ?_
       rintro e w3 ⟨rfl, hO3⟩
       replace e0 := hO3.cell e0 id
       replace e1 := hO3.cell e1 id
       replace e2 := hO3.cell e2 id
       replace e3 := hO3.cell e3 id
       replace e4 := hO3.cell e4 id
       replace e5 := hO3.cell e5 id
       replace e6 := hO3.cell e6 id
       replace e7 := hO3.cell e7 id
       replace e8 := hO3.cell e8 id
       replace e9 := hO3.cell e9 id
       replace f0 := hO3.cell f0 id
       replace f1 := hO3.cell f1 id
       replace f2 := hO3.cell f2 id
       replace f3 := hO3.cell f3 id
       replace f4 := hO3.cell f4 id
       replace f5 := hO3.cell f5 id
       replace f6 := hO3.cell f6 id
       replace kD := Nat.lt_of_lt_of_le kD hO3.size
       replace hlt2 := Nat.lt_of_lt_of_le hlt2 hO3.size
       have hP3 := zh (hO'.out.trans' hO3)
       clear hO3 q3 hO'
       by_cases hz0 : z = 0
       rotate_left
       ·have hv2 := zh (show V = z by rw [hv.out]; simp [hz0])
        have hzb : (z != 0) = true := by simp [hz0]
        go_wp2
        go_ret
        exact ⟨zAI hv2.out.symm, hP3.out⟩
       ·subst hz0
        have jFk := zh (hlk.out rfl)
        have hv1 := zh (show V = if l.any (lowB d.ce P) = true then 9 else if (ts.take i).any (fun u => decide (u.p = P)) = true then 10 else 0 by rw [hv.out]; simp)
        clear hlk hv
        go_wp2
        go_loopw [69] (fun i wr => ∃ k : Nat, k <= on /\ i = .int .i64 k /\ (∀ (j : Nat) o, j < k -> l[j]? = some o -> lowB d.ce P o = false) /\ Only (fun _ => False) w3 wr) (fun i _ => on - (intOf i).toNat)
        case atStart => exact ⟨0, Nat.zero_le _, rfl, (fun j z hj => by omega), Only.refl _ w3⟩
        case round =>
         obtain ⟨k, hk, rfl, hall, hOk⟩ := hrel
         replace e0 := hOk.cell e0 id
         replace e1 := hOk.cell e1 id
         replace e2 := hOk.cell e2 id
         replace e3 := hOk.cell e3 id
         replace e4 := hOk.cell e4 id
         replace e5 := hOk.cell e5 id
         replace e6 := hOk.cell e6 id
         replace e7 := hOk.cell e7 id
         replace e8 := hOk.cell e8 id
         replace e9 := hOk.cell e9 id
         replace f0 := hOk.cell f0 id
         replace f1 := hOk.cell f1 id
         replace f2 := hOk.cell f2 id
         replace f3 := hOk.cell f3 id
         replace f4 := hOk.cell f4 id
         replace f5 := hOk.cell f5 id
         replace f6 := hOk.cell f6 id
         replace kD := Nat.lt_of_lt_of_le kD hOk.size
         replace hlt2 := Nat.lt_of_lt_of_le hlt2 hOk.size
         have hPk := zh (hP3.out.trans' hOk)
         have yO := zh hOk
         have jT := zh hall
         clear hall hOk
         by_cases hkn : k < on
         ·have vR : (k : Int) < (on : Int) := by omega
          obtain ⟨o, ho⟩ : ∃ t, l[k]? = some t := ⟨_, List.getElem?_eq_getElem (by have := jAk.out; omega)⟩
          obtain ⟨b, off, hA, hb, hC⟩ := hl'.out k o ho
          subst hA
          have c0 := hPk.out.cell hC.1 id
          have c1 := hPk.out.cell hC.2.1 id
          have c2 := hPk.out.cell hC.2.2 id
          have hin := jFk.out o (List.mem_of_getElem? ho)
          have hnx := zh (fun (hf : lowB d.ce P o = false) => show ∀ (j : Nat) y, j < k + 1 -> l[j]? = some y -> lowB d.ce P y = false from fun j y hj hy => by
            by_cases hjk : j < k
            ·exact jT.out j y hjk hy
            ·obtain rfl : j = k := by omega
             rw [ho] at hy
             cases hy
             exact hf)
          have xN := zh (fun (hf : lowB d.ce P o = true) => zGD (f := lowB d.ce P) ho hf)
          have hbig := Nat.lt_of_lt_of_le hb hPk.out.size
          clear hC ho
          obtain ⟨ok, oa, ob⟩ := o
          simp only at *
          have hOa := zh (fun (v : Obj) => (Only.refl (fun _ => False) wr).alloc v)
          by_cases h5 : ok = 5
          ·subst h5
           obtain ⟨h1, h2⟩ := hin rfl
           obtain ⟨a, rfl⟩ := Int.eq_ofNat_of_zero_le h1
           have jAl := hC'.out.len
           simp only at jAl
           obtain ⟨y, hy⟩ : ∃ y, d.ce[a]? = some y := ⟨_, List.getElem?_eq_getElem (by omega)⟩
           obtain ⟨bb, jIl, hA2, hb2, y0⟩ := hC'.out.at_ a y hy
           simp only at hA2
           subst hA2
           have han : (a : Int) < (en : Int) := by omega
           have jFg : a < en := by omega
           have y1 := hPk.out.cell y0 id
           have hb3 := Nat.lt_of_lt_of_le hb2 hPk.out.size
           have hgd := zh (show d.ce.getD a 0 = y by rw [List.getD_eq_getElem?_getD, hy]; rfl)
           clear hy hin jAl h2 y0 hb2
           by_cases hlt : y < P
           ·have hw := zh (xN.out (by rw [zDG hgd.out]; simp [hlt]))
            have hv2 := zh (show V = 9 by rw [hv1.out, if_pos hw.out])
            go_wp2
            go_quiet (fail)
            go_wp2
            go_ret
            exact ⟨zAI hv2.out.symm, (hPk.out.alloc _).drewN _⟩
           ·have hw := zh (hnx.out (by rw [zDG hgd.out]; simp; omega))
            go_wp2
            go_quiet (fail)
            go_wp2
            go_roundw
            case rel => exact ⟨k + 1, by omega, by go_num, hw.out, (yO.out.alloc _).drewN _⟩
            case measure => simp [intOf]; omega
          ·have hw := zh (hnx.out (zJP h5))
           have h5b : (ok == 5) = false := by simp [h5]
           clear hin
           go_wp2
           go_quiet (fail)
           go_wp2
           go_roundw
           case rel => exact ⟨k + 1, by omega, by go_num, hw.out, (yO.out.alloc _).drewN _⟩
           case measure => simp [intOf]; omega
         ·obtain rfl : k = on := by omega
          have hno := zh (zGC (l := l) (f := lowB d.ce P) (fun j z hz => jT.out j z (by have := (List.getElem?_eq_some_iff.1 hz).1; have := jAk.out; omega) hz))
          have hv2 := zh (show V = if (ts.take i).any (fun u => decide (u.p = P)) = true then 10 else 0 by rw [hv1.out, hno.out]; simp)
          clear hv1 hno jT
          go_wp2
          go_loopw [10] (fun i' wq => ∃ k' : Nat, k' <= i /\ i' = .int .i64 k' /\ (∀ (j : Nat) u, j < k' -> ts[j]? = some u -> decide (u.p = P) = false) /\ Only (fun _ => False) wr wq) (fun i' _ => i - (intOf i').toNat)
          case atStart => exact ⟨0, Nat.zero_le _, rfl, (fun j z hj => by omega), Only.refl _ wr⟩
          case round =>
           obtain ⟨k', hk', rfl, hall, hOq⟩ := hrel
           replace e0 := hOq.cell e0 id
           replace e1 := hOq.cell e1 id
           replace e2 := hOq.cell e2 id
           replace e3 := hOq.cell e3 id
           replace e4 := hOq.cell e4 id
           replace e5 := hOq.cell e5 id
           replace e6 := hOq.cell e6 id
           replace e7 := hOq.cell e7 id
           replace e8 := hOq.cell e8 id
           replace e9 := hOq.cell e9 id
           replace f0 := hOq.cell f0 id
           replace f1 := hOq.cell f1 id
           replace f2 := hOq.cell f2 id
           replace f3 := hOq.cell f3 id
           replace f4 := hOq.cell f4 id
           replace f5 := hOq.cell f5 id
           replace f6 := hOq.cell f6 id
           replace kD := Nat.lt_of_lt_of_le kD hOq.size
           replace hlt2 := Nat.lt_of_lt_of_le hlt2 hOq.size
           have hPq := zh (hPk.out.trans' hOq)
           have jFl := zh hOq
           have jT := zh hall
           clear hall hOq
           have htl := zh hT'.out.len
           by_cases hki : k' < i
           ·have jIm : (k' : Int) < (i : Int) := by omega
            obtain ⟨u, hu⟩ : ∃ u, ts[k']? = some u := ⟨_, List.getElem?_eq_getElem (by have := htl.out; simp only at this; omega)⟩
            obtain ⟨bb, off, hA, hb, hCC⟩ := hT'.out.at_ k' u hu
            simp only at hA
            subst hA
            have t0 := hPq.out.cell hCC.c0 id
            have hb3 := Nat.lt_of_lt_of_le hb hPq.out.size
            have hkt : (k' : Int) < (tn : Int) := by omega
            have hnx := zh (fun (hf : decide (u.p = P) = false) => show ∀ (j : Nat) y, j < k' + 1 -> ts[j]? = some y -> decide (y.p = P) = false from fun j y hj hy => by
             by_cases hjk : j < k'
             ·exact jT.out j y hjk hy
             ·obtain rfl : j = k' := by omega
              rw [hu] at hy
              cases hy
              exact hf)
            have xN := zh (fun (hf : decide (u.p = P) = true) => zGD (l := ts.take i) (k := k') (f := fun u => decide (u.p = P)) (by rw [List.getElem?_take_of_lt hki]; exact hu) hf)
            clear hCC hu hb
            obtain ⟨up, uth, upe, ude, ufr, ufl, uo⟩ := u
            simp only at *
            by_cases hup : up = P
            ·have hw := zh (xN.out (by simp [hup]))
             have hv3 := zh (show V = 10 by rw [hv2.out, if_pos hw.out])
             have jFm : (up == P) = true := by simp [hup]
             go_wp2
             go_quiet (fail)
             go_wp2
             go_ret
             exact ⟨zAI hv3.out.symm, hPq.out.drewN _⟩
            ·have hw := zh (hnx.out (by simp [hup]))
             have jFm : (up == P) = false := by simp [hup]
             go_wp2
             go_quiet (fail)
             go_wp2
             go_roundw
             case rel => exact ⟨k' + 1, by omega, by go_num, hw.out, jFl.out.drewN _⟩
             case measure => simp [intOf]; omega
           ·obtain rfl : k' = i := by omega
            have hno := zh (zGC (l := ts.take k') (f := fun u => decide (u.p = P)) (fun j z hz => by
             have hj : j < k' := by
              have := (List.getElem?_eq_some_iff.1 hz).1
              rw [List.length_take] at this
              omega
             rw [List.getElem?_take_of_lt hj] at hz
             exact jT.out j z hj hz))
            have hv3 := zh (show V = 0 by rw [hv2.out, hno.out]; simp)
            go_wp2
            go_ret
            exact ⟨zAI hv3.out.symm, hPq.out⟩
