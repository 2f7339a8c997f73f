import Derived.Test.YtlbdjiiddofkgaaGreatDoorC22
set_option maxRecDepth 100000
namespace Go.Proofs.YtlbdjiiddofkgaaGreatDoor
open Go Go.RowKit
set_option maxHeartbeats 8000000 in
theorem zFD {w : World} {c : jD} {d : jL} {pl : Tks} (hc : ConfAt w c d pl) : Calls Tryz.prog 11 #[c.val] w (GrowI (confZ c d pl) w) := by
 have hO := ((Only.refl (fun _ => False) w).alloc (.cells c.cells.toArray 27)).alloc (.cells [.int .i64 c.s, .int .i64 c.wy, .int .i64 c.h, .int .i64 c.mi].toArray 23)
 have hB := zAF (zAB w (.cells c.cells.toArray 27) rfl) (.cells [.int .i64 c.s, .int .i64 c.wy, .int .i64 c.h, .int .i64 c.mi].toArray 23)
 have hB2 := zAB (w.alloc (.cells c.cells.toArray 27)) (.cells [.int .i64 c.s, .int .i64 c.wy, .int .i64 c.h, .int .i64 c.mi].toArray 23) (X := w.heap.size + 1) (by simp)
 obtain ⟨W2, hW2⟩ : ∃ W2, W2 = (w.alloc (.cells c.cells.toArray 27)).alloc (.cells [.int .i64 c.s, .int .i64 c.wy, .int .i64 c.h, .int .i64 c.mi].toArray 23) := ⟨_, rfl⟩
 obtain ⟨b1, x1⟩ : ∃ b, b = inB 1 16 c.s := ⟨_, rfl⟩
 obtain ⟨b2, x2⟩ : ∃ b, b = inB 1 4 c.wy := ⟨_, rfl⟩
 obtain ⟨b3, x3⟩ : ∃ b, b = inB 1 100 c.h := ⟨_, rfl⟩
 obtain ⟨b4, x4⟩ : ∃ b, b = inB c.h 100 c.mi := ⟨_, rfl⟩
 have m1 := zh (fun W => zBP W c.s 1 16)
 have m2 := zh (fun W => zBP W c.wy 1 4)
 have m3 := zh (fun W => zBP W c.h 1 100)
 have m4 := zh (fun W => zBP W c.mi c.h 100)
 rw [<- x1] at m1
 rw [<- x2] at m2
 rw [<- x3] at m3
 rw [<- x4] at m4
 obtain ⟨k1, y1⟩ : ∃ b, b = allIn 1 8 d.mb := ⟨_, rfl⟩
 obtain ⟨k2, y2⟩ : ∃ b, b = allIn 1 8 d.cn := ⟨_, rfl⟩
 obtain ⟨k3, y3⟩ : ∃ b, b = allIn 0 63 d.ce := ⟨_, rfl⟩
 obtain ⟨k4, y4⟩ : ∃ b, b = allIn 0 ((c.ta.n : Int) - 1) d.li := ⟨_, rfl⟩
 have n1 := zh (fun (W : World) (hW : Only (fun _ => False) w W) => zD7 (hc.o.new hW).mb hc.o.s.1 1 8)
 have n2 := zh (fun (W : World) (hW : Only (fun _ => False) w W) => zD7 (hc.o.new hW).cn hc.o.s.2.1 1 8)
 have n3 := zh (fun (W : World) (hW : Only (fun _ => False) w W) => zD7 (hc.o.new hW).ce hc.o.s.2.2.1 0 63)
 have n4 := zh (fun (W : World) (hW : Only (fun _ => False) w W) => zD7 (hc.o.new hW).li hc.o.s.2.2.2.1 0 ((c.ta.n : Int) - 1))
 rw [<- y1] at n1
 rw [<- y2] at n2
 rw [<- y3] at n3
 rw [<- y4] at n4
 have q4 := zh (fun (h1 : c.room.ok) (W : World) (h : Only (fun _ => False) w W) (i : Nat) (t : jA) (ht : pl.ts[i]? = some t) => show Calls Tryz.prog 41 #[c.val, .int .i64 i, t.val] W (GrowI (taskAt c.room d.ce pl i) W) by
  unfold Tks.ts at ht
  rw [List.getElem?_map] at ht
  obtain ⟨⟨t', l⟩, hp, rfl⟩ := Option.map_eq_some_iff.1 ht
  rw [zB3 hp]
  obtain ⟨p1, p2, p3, p4⟩ := hc.p.row i t' l hp
  exact zL5 (hc.o.new h) (hc.t.new h) h1 (zIN hp) (p1.new h) p2 p3 p4)
 have hrk := zh (fun (h1 : kQ c = false) (h2 : ¬ c.g < 0) => zL3 h1 h2)
 obtain ⟨V, hV⟩ : ∃ V, V = confZ c d pl := ⟨_, rfl⟩
 obtain ⟨f, hf⟩ : ∃ f, f = taskAt c.room d.ce pl := ⟨_, rfl⟩
 rw [<- hV]
 have hV' := zh (show V = if (b1 && b2 && b3 && b4) = false then 5 else if kQ c = true then 4 else if c.ta.n = 0 ∨ c.g < 0 then 1 else if (k1 && k2 && k3 && k4) = false then 5
  else firstNZ f c.ta.n by rw [hV, hf, x1, x2, x3, x4, y1, y2, y3, y4]; rfl)
 rw [<- hf] at q4
 rw [show c.val = .agg #[.int .i64 c.s, .int .i64 c.wy, .int .i64 c.h, .int .i64 c.mi, .slice c.mb.A c.mb.n c.mb.cap, .int .i64 c.g, .slice c.cn.A c.cn.n c.cn.cap, .slice c.ce.A c.ce.n c.ce.cap, .slice c.ta.A c.ta.n c.ta.cap, .slice c.li.A c.li.n c.li.cap] from rfl] at q4 ⊢
 have e0 := zAA hB (i := 0) rfl
 have e1 := zAA hB (i := 1) rfl
 have e2 := zAA hB (i := 2) rfl
 have e3 := zAA hB (i := 3) rfl
 have e4 := zAA hB (i := 4) rfl
 have e5 := zAA hB (i := 5) rfl
 have e6 := zAA hB (i := 6) rfl
 have e7 := zAA hB (i := 7) rfl
 have e8 := zAA hB (i := 8) rfl
 have e9 := zAA hB (i := 9) rfl
 have kD := zAG hB
 have f0 := zAA hB2 (i := 0) rfl
 have f1 := zAA hB2 (i := 1) rfl
 have f2 := zAA hB2 (i := 2) rfl
 have f3 := zAA hB2 (i := 3) rfl
 have hlt2 := zAG hB2
 rw [<- hW2] at f0 f1 f2 f3 hlt2 e0 e1 e2 e3 e4 e5 e6 e7 e8 e9 hO kD
 have hs5 := hc.o.s.2.2.2.2
 have hT' := zh hc.t
 unfold jD.cells at hW2
 generalize c.room.ok = RO at q4 hrk
 have hmk := zh (show kQ c = decide (4 < (c.mb.n : Int) ∨ 4 < c.g ∨ 4 < (c.cn.n : Int) ∨ 4 < (c.ce.n : Int) ∨ 8 < (c.ta.n : Int) ∨ 8 < (c.li.n : Int)) from rfl)
 rw [hmk.out] at hrk hV'
 clear hmk
 obtain ⟨s, wy, h, mi, ⟨mA, mn, mc⟩, g, ⟨cA, cn, cc⟩, ⟨eA, en, ec⟩, ⟨tA, tn, tc⟩, ⟨lA, ln, lc⟩⟩ := c
 simp only at *
 have vH := zh hW2
 have hO' := zh hO
 clear hc hB hB2 hO hW2 hV x1 x2 x3 x4 y1 y2 y3 y4 hf
 cases b1
 ·skip
  have hv := zh (show V = 5 by rw [hV'.out]; simp)
  go_enter Tryz.func11, Tryz.ntmps11
  go_wp2_with fail
  refine (m1.out _).mono ?_
  rintro e w' ⟨rfl, rfl⟩
  rw [<- vH.out]
  go_wp2
  go_ret
  exact ⟨zAI hv.out.symm, hO'.out⟩
 ·skip
  cases b2
  ·skip
   have hv := zh (show V = 5 by rw [hV'.out]; simp)
   go_enter Tryz.func11, Tryz.ntmps11
   go_wp2_with fail
   refine (m1.out _).mono ?_
   rintro e w' ⟨rfl, rfl⟩
   rw [<- vH.out]
   go_wp2_with fail
   refine (m2.out _).mono ?_
   rintro e w' ⟨rfl, rfl⟩
   go_wp2
   go_ret
   exact ⟨zAI hv.out.symm, hO'.out⟩
  ·skip
   cases b3
   ·skip
    have hv := zh (show V = 5 by rw [hV'.out]; simp)
    go_enter Tryz.func11, Tryz.ntmps11
    go_wp2_with fail
    refine (m1.out _).mono ?_
    rintro e w' ⟨rfl, rfl⟩
    rw [<- vH.out]
    go_wp2_with fail
    refine (m2.out _).mono ?_
    rintro e w' ⟨rfl, rfl⟩
    go_wp2_with fail
    refine (m3.out _).mono ?_
    rintro e w' ⟨rfl, rfl⟩
    go_wp2
    go_ret
    exact ⟨zAI hv.out.symm, hO'.out⟩
   ·skip
    cases b4
    ·skip
     have hv := zh (show V = 5 by rw [hV'.out]; simp)
     go_enter Tryz.func11, Tryz.ntmps11
     go_wp2_with fail
     refine (m1.out _).mono ?_
     rintro e w' ⟨rfl, rfl⟩
     rw [<- vH.out]
     go_wp2_with fail
     refine (m2.out _).mono ?_
     rintro e w' ⟨rfl, rfl⟩
     go_wp2_with fail
     refine (m3.out _).mono ?_
     rintro e w' ⟨rfl, rfl⟩
     go_wp2_with fail
     refine (m4.out _).mono ?_
     rintro e w' ⟨rfl, rfl⟩
     go_wp2
     go_ret
     exact ⟨zAI hv.out.symm, hO'.out⟩
    ·skip
     go_enter Tryz.func11, Tryz.ntmps11
     go_wp2_with fail
     refine (m1.out _).mono ?_
     rintro e w' ⟨rfl, rfl⟩
     rw [<- vH.out]
     go_wp2_with fail
     refine (m2.out _).mono ?_
     rintro e w' ⟨rfl, rfl⟩
     go_wp2_with fail
     refine (m3.out _).mono ?_
     rintro e w' ⟨rfl, rfl⟩
     go_wp2_with fail
     refine (m4.out _).mono ?_
     rintro e w' ⟨rfl, rfl⟩
     clear m1 m2 m3 m4 vH f0 f1 f2 f3
     by_cases u0 : 4 < (mn : Int)
     ·have hv := zh (show V = 4 by rw [hV'.out, if_neg (by simp), if_pos (by simp only [decide_eq_true_eq]; omega)])
      go_wp2
      go_ret
      exact ⟨zAI hv.out.symm, hO'.out⟩
     ·skip
      by_cases u1 : 4 < g
      ·have hv := zh (show V = 4 by rw [hV'.out, if_neg (by simp), if_pos (by simp only [decide_eq_true_eq]; omega)])
       go_wp2
       go_ret
       exact ⟨zAI hv.out.symm, hO'.out⟩
      ·skip
       by_cases u2 : 4 < (cn : Int)
       ·have hv := zh (show V = 4 by rw [hV'.out, if_neg (by simp), if_pos (by simp only [decide_eq_true_eq]; omega)])
        go_wp2
        go_ret
        exact ⟨zAI hv.out.symm, hO'.out⟩
       ·skip
        by_cases u3 : 4 < (en : Int)
        ·have hv := zh (show V = 4 by rw [hV'.out, if_neg (by simp), if_pos (by simp only [decide_eq_true_eq]; omega)])
         go_wp2
         go_ret
         exact ⟨zAI hv.out.symm, hO'.out⟩
        ·skip
         by_cases u4 : 8 < (tn : Int)
         ·have hv := zh (show V = 4 by rw [hV'.out, if_neg (by simp), if_pos (by simp only [decide_eq_true_eq]; omega)])
          go_wp2
          go_ret
          exact ⟨zAI hv.out.symm, hO'.out⟩
         ·skip
          by_cases u5 : 8 < (ln : Int)
          ·have hv := zh (show V = 4 by rw [hV'.out, if_neg (by simp), if_pos (by simp only [decide_eq_true_eq]; omega)])
           go_wp2
           go_ret
           exact ⟨zAI hv.out.symm, hO'.out⟩
          ·skip
           have hmf := zh (show decide (4 < (mn : Int) ∨ 4 < g ∨ 4 < (cn : Int) ∨ 4 < (en : Int) ∨ 8 < (tn : Int) ∨ 8 < (ln : Int)) = false by simp only [decide_eq_false_iff_not]; omega)
           rw [hmf.out] at hV' hrk
           clear hmf
           by_cases hn0 : tn = 0
           ·subst hn0
            have hv := zh (show V = 1 by rw [hV'.out]; simp)
            go_wp2
            go_ret
            exact ⟨zAI hv.out.symm, hO'.out⟩
           ·have hnb : ((tn : Int) == 0) = false := by simp [hn0]
            have jFh : ¬ (tn : Int) = 0 := by omega
            by_cases hg : g < 0
            ·have hv := zh (show V = 1 by rw [hV'.out, if_neg (by simp), if_neg (by simp), if_pos (.inr hg)])
             go_wp2
             go_ret
             exact ⟨zAI hv.out.symm, hO'.out⟩
            ·have hgb : ¬ g < 0 := hg
             have hv0 := zh (show V = if (k1 && k2 && k3 && k4) = false then 5 else firstNZ f tn by rw [hV'.out, if_neg (by simp), if_neg (by simp), if_neg (by omega)])
             have q5 := zh (q4.out (hrk.out rfl (by omega)))
             clear q4 hrk hV'
             cases k1
             ·skip
              have hv := zh (show V = 5 by rw [hv0.out]; simp)
              go_wp2_with fail
              refine (n1.out _ hO'.out).mono ?_
              rintro e w' ⟨rfl, rfl⟩
              go_wp2
              go_ret
              exact ⟨zAI hv.out.symm, hO'.out⟩
             ·skip
              cases k2
              ·skip
               have hv := zh (show V = 5 by rw [hv0.out]; simp)
               go_wp2_with fail
               refine (n1.out _ hO'.out).mono ?_
               rintro e w' ⟨rfl, rfl⟩
               go_wp2_with fail
               refine (n2.out _ hO'.out).mono ?_
               rintro e w' ⟨rfl, rfl⟩
               go_wp2
               go_ret
               exact ⟨zAI hv.out.symm, hO'.out⟩
              ·skip
               cases k3
               ·skip
                have hv := zh (show V = 5 by rw [hv0.out]; simp)
                go_wp2_with fail
                refine (n1.out _ hO'.out).mono ?_
                rintro e w' ⟨rfl, rfl⟩
                go_wp2_with fail
                refine (n2.out _ hO'.out).mono ?_
                rintro e w' ⟨rfl, rfl⟩
                go_wp2_with fail
                refine (n3.out _ hO'.out).mono ?_
                rintro e w' ⟨rfl, rfl⟩
                go_wp2
                go_ret
                exact ⟨zAI hv.out.symm, hO'.out⟩
               ·skip
                cases k4
                ·skip
                 have hv := zh (show V = 5 by rw [hv0.out]; simp)
                 go_wp2_with fail
                 refine (n1.out _ hO'.out).mono ?_
                 rintro e w' ⟨rfl, rfl⟩
                 go_wp2_with fail
                 refine (n2.out _ hO'.out).mono ?_
                 rintro e w' ⟨rfl, rfl⟩
                 go_wp2_with fail
                 refine (n3.out _ hO'.out).mono ?_
                 rintro e w' ⟨rfl, rfl⟩
                 go_wp2_with fail
                 refine (n4.out _ hO'.out).mono ?_
                 rintro e w' ⟨rfl, rfl⟩
                 go_wp2
                 go_ret
                 exact ⟨zAI hv.out.symm, hO'.out⟩
                ·skip
                 go_wp2_with fail
                 refine (n1.out _ hO'.out).mono ?_
                 rintro e w' ⟨rfl, rfl⟩
                 go_wp2_with fail
                 refine (n2.out _ hO'.out).mono ?_
                 rintro e w' ⟨rfl, rfl⟩
                 go_wp2_with fail
                 refine (n3.out _ hO'.out).mono ?_
                 rintro e w' ⟨rfl, rfl⟩
                 go_wp2_with fail
                 refine (n4.out _ hO'.out).mono ?_
                 rintro e w' ⟨rfl, rfl⟩
                 have hv := zh (show V = firstNZ f tn by rw [hv0.out]; simp)
                 clear n1 n2 n3 n4 hv0
                 go_wp2
                 go_loopw [104] (fun i wr => ∃ k : Nat, k <= tn /\ i = .int .i64 k /\ (∀ j : Nat, j < k -> f j = 0) /\ Only (fun _ => False) W2 wr) (fun i _ => tn - (intOf i).toNat)
                 case atStart => exact ⟨0, Nat.zero_le _, rfl, (fun j hj => by omega), Only.refl _ W2⟩
                 case round =>
                  obtain ⟨k, hk, rfl, hall, hOk⟩ := hrel
                  replace e0 := hOk.cell e0 id
                  replace e1 := hOk.cell e1 id
                  replace e2 := hOk.cell e2 id
                  replace e3 := hOk.cell e3 id
                  replace e4 := hOk.cell e4 id
                  replace e5 := hOk.cell e5 id
                  replace e6 := hOk.cell e6 id
                  replace e7 := hOk.cell e7 id
                  replace e8 := hOk.cell e8 id
                  replace e9 := hOk.cell e9 id
                  replace kD := Nat.lt_of_lt_of_le kD hOk.size
                  have hPk := zh (hO'.out.trans' hOk)
                  have yO := zh hOk
                  have jT := zh hall
                  clear hall hOk
                  by_cases hkn : k < tn
                  ·have vR : (k : Int) < (tn : Int) := by omega
                   obtain ⟨t, ht⟩ : ∃ t, pl.ts[k]? = some t := ⟨_, List.getElem?_eq_getElem (by have := hT'.out.len; simp only at this; omega)⟩
                   obtain ⟨bb, off, hA, hb, hC⟩ := hT'.out.at_ k t ht
                   simp only at hA
                   subst hA
                   obtain ⟨c0, c1, c2, c3, c4, c5, c6⟩ := hC.new hPk.out
                   have hb3 := Nat.lt_of_lt_of_le hb hPk.out.size
                   obtain ⟨z, hz⟩ : ∃ z, z = f k := ⟨_, rfl⟩
                   have q6 := fun (W : World) (h : Only (fun _ => False) wr W) => q5.out W (hPk.out.trans' h) k t ht
                   rw [<- hz] at q6
                   rw [show t.val = .agg #[.int .i64 t.p, .int .i64 t.th, .int .i64 t.pe, .int .i64 t.de, .int .i64 t.fr, .int .i64 t.fl, .slice t.o.A t.o.n t.o.cap] from rfl] at q6
                   have q6' := zh q6
                   have hz' := zh hz
                   clear q6 hz hC ht hb
                   have hOa := zh ((Only.refl (fun _ => False) wr).alloc (.cells t.cells.toArray 63))
                   unfold jA.cells at hOa
                   obtain ⟨P, th, pe, de, fr, fl, ⟨oA, on, oc⟩⟩ := t
                   simp only at *
                   go_wp2_with fail
                   refine (q6'.out _ hOa.out).mono ?_
                   rintro e w4 ⟨rfl, hO4⟩
                   replace hO4 := hOa.out.trans' hO4
                   replace e0 := hO4.cell e0 id
                   replace e1 := hO4.cell e1 id
                   replace e2 := hO4.cell e2 id
                   replace e3 := hO4.cell e3 id
                   replace e4 := hO4.cell e4 id
                   replace e5 := hO4.cell e5 id
                   replace e6 := hO4.cell e6 id
                   replace e7 := hO4.cell e7 id
                   replace e8 := hO4.cell e8 id
                   replace e9 := hO4.cell e9 id
                   replace kD := Nat.lt_of_lt_of_le kD hO4.size
                   have hP4 := zh (hPk.out.trans' hO4)
                   have jCc := zh (yO.out.trans' hO4)
                   clear hO4 q6' hOa
                   by_cases hz0 : z = 0
                   ·subst hz0
                    have hnx := zh (show ∀ j : Nat, j < k + 1 -> f j = 0 from fun j hj => by
                     by_cases hjk : j < k
                     ·exact jT.out j hjk
                     ·obtain rfl : j = k := by omega
                      exact hz'.out.symm)
                    go_wp2
                    go_roundw
                    case rel => exact ⟨k + 1, by omega, by go_num, hnx.out, jCc.out⟩
                    case measure => simp [intOf]; omega
                   ·have hv2 := zh (show V = z by rw [hv.out, zDQ jT.out (by rw [<- hz'.out]; exact hz0) hkn, <- hz'.out])
                    have hzb : (z != 0) = true := by simp [hz0]
                    go_wp2
                    go_ret
                    exact ⟨zAI hv2.out.symm, hP4.out⟩
                  ·obtain rfl : k = tn := by omega
                   have hv2 := zh (show V = 0 by rw [hv.out, zBR jT.out])
                   go_wp2
                   go_ret
                   exact ⟨zAI hv2.out.symm, hPk.out⟩
theorem zCF {P : Program} {w : World} {ops : Array Oper} {o : Oper} {a : Act} {K : Act -> World -> Prop} {Q : Exit -> Act -> World -> Prop} {E : Prop} (hgd : o.guard = none) {f : FuncId} {fn : Func} {c : Code} (hf : P.funcs[f]? = some fn) (hname : (fn.name == "runtime.NumGoroutine") = false) (hb : fn.body = some c) (xs : List Operand) (ts : Array TypeId)
  (hop : o.op = Op.call { callee := Callee.value (.func f), args := xs.toArray, argTypes := ts }) (args : List Value) (hx : xs.map a.eval = args) {R : Ending -> World -> Prop} (h : Calls P f args.toArray w R)
  (hR : ∀ e w', R e w' -> ∃ v, e = .returned v /\ K (a.put o.dst v) w') : if Region.wanted o (yielded ops a.tmps) = true then Oper.wp P o a w K Q else E := by
 have hw : Region.wanted o (yielded ops a.tmps) = true := by simp [Region.wanted, hgd]
 rw [if_pos hw]
 have hrun : (execOp a.eval o).run P w = .ok (.enter f args.toArray) w := by
  subst hx
  have h1 : fn.name ≠ "runtime.NumGoroutine" := by simpa using hname
  simp [execOp, hop, resolve, invoke, Act.eval, Deferred.ofValue, callFunc, Result.andThen, hf, h1, hb]
 unfold Oper.wp
 rw [hrun]
 show Calls P f args.toArray w _
 refine h.mono fun e w' r => ?_
 obtain ⟨v, rfl, hk⟩ := hR e w' r
 exact hk
