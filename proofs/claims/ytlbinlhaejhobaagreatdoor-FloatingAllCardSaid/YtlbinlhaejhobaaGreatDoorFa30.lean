/- FloatingAll, walked. Written by mka29.py. -/
import Derived.Test.YtlbinlhaejhobaaGreatDoorF30
import Derived.Test.YtlbinlhaejhobaaGreatDoorPH
import Derived.Test.YtlbinlhaejhobaaGreatDoorRlo
namespace Go.Proofs.YtlbinlhaejhobaaGreatDoor
namespace Twn
open Go Go.RowKit Krn Asn Pre Adm Rca Sct Lin Lck Cst Rld
open Bch (GrowU)

def flI (pl : Tks) (i : Nat) : Int := (pl.ts.map (·.fl)).getD i 0
theorem flI_at {pl : Tks} {k : Nat} {t : TaskV} (h : pl.ts[k]? = some t) : flI pl k = t.fl := by
  unfold flI
  rw [List.getD_eq_getElem?_getD, List.getElem?_map, h]
  rfl
def D30 (tn : Nat) (WF : Nat → Int) (w : World) (e : Ending) (w' : World) : Prop :=
  ∃ (y : ConfV), e = .returned (.agg #[.int .i64 y.s, .int .i64 y.wy, .int .i64 y.h, .int .i64 y.mi, .slice y.mb.A y.mb.n y.mb.cap, .int .i64 y.g, .slice y.cn.A y.cn.n y.cn.cap, .slice y.ce.A y.ce.n y.ce.cap, .slice y.ta.A y.ta.n y.ta.cap, .slice y.li.A y.li.n y.li.cap]) ∧ Only (fun _ => False) w w' ∧ y.ta.n = tn ∧ ∀ W, Only (fun _ => False) w' W → ∀ i, i < tn → ∃ g off, y.ta.A = some ⟨g, off, none⟩ ∧ g < W.heap.size ∧ W.cell? ⟨g, off + i * 7 + 5, none⟩ = some (.int .i64 (WF i))
theorem with_d30 {w : World} {c : ConfV} {d : ConfL} {pl : Tks} (h0 : Cf0 w c d pl) (z x : Int) : Calls Tryz.prog 39 #[c.val, .int .i64 z, .int .i64 x] w (D30 c.ta.n (fun (i : Nat) => if (i : Int) = z then x else flI pl i) w) := by
  refine (fwith_any h0 z x).mono ?_
  rintro e w' ⟨c', us, tb, tp, rfl, hF⟩
  refine ⟨c', rfl, hF.tw.only, (key_nums hF.key).2.2.2.2.2.2.2.2.1, fun W hW i hi => ?_⟩
  have hI := ((hF.new hW).conf h0.C).t
  obtain ⟨⟨t, l⟩, hp⟩ : ∃ y, pl[i]? = some y := ⟨_, List.getElem?_eq_getElem (by rw [h0.len]; exact hi)⟩
  obtain ⟨o, ho2⟩ := hF.tw.same i t l hp
  obtain ⟨b, off, q1, q2, q3⟩ := hI.at_ i _ (ts_some ho2)
  have q5 := q3.c5
  refine ⟨b, off, q1, q2, ?_⟩
  rw [q5]
  show some (Value.int .i64 (fwF c.ta.n z x i t).fl) = some (Value.int .i64 (if (i : Int) = z then x else flI pl i))
  rw [flI_at (ts_some hp)]
  unfold fwF hasI
  by_cases e : (i : Int) = z
  · subst e
    rw [if_pos rfl, decide_eq_true (by omega), if_pos rfl]
    unfold flF
    rw [if_pos (by omega)]
  · rw [if_neg e]
    by_cases hz : 0 ≤ z ∧ z < c.ta.n
    · rw [decide_eq_true hz, if_pos rfl]
      unfold flF
      rw [if_neg (by omega)]
    · rw [decide_eq_false hz, if_neg (by simp)]
theorem row_cellT {n : Nat} {W : World} {A : Option Addr} {cap : Nat} {h : Option Nat} {B : List Int} (hW : Win W 3 1 (.slice A n cap) h n (icells B)) {k : Nat} (hk : k < n) : ∃ g off, A = some ⟨g, off, none⟩ ∧ g < W.heap.size ∧ W.cell? ⟨g, off + k, none⟩ = some (.int .i64 (B.getD k 0)) := by
  have hl : B.length = n := by have := hW.1; simpa [icells] using this
  obtain ⟨g, off, cap', -, hv, -, -, hlt, hc, -⟩ := hW.at_ (by omega)
  injection hv with e1 _ _
  obtain ⟨z, hz⟩ : ∃ z, B[k]? = some z := ⟨_, List.getElem?_eq_getElem (by omega)⟩
  exact ⟨g, off, e1, hlt, by rw [List.getD_eq_getElem?_getD, hz]; exact hc k _ (by unfold icells; rw [List.getElem?_map, hz]; rfl)⟩
set_option maxRecDepth 100000 in
set_option maxHeartbeats 8000000 in
theorem fa30_any {w : World} {c : ConfV} {d : ConfL} {pl : Tks} (hw : Words w) (hC : ConfIn w c d pl) (z x : Int) :
    Calls Tryz.prog 9 #[c.val, .int .i64 z, .int .i64 x] w (GrowB true w) := by
  obtain ⟨q, hq⟩ : ∃ q, q = w.heap.size := ⟨_, rfl⟩
  obtain ⟨W2, hW2⟩ : ∃ W2, W2 = w.alloc (.cells c.cells.toArray 27) := ⟨_, rfl⟩
  have hO2 : Only (fun _ => False) w W2 := by rw [hW2]; exact (Only.refl _ w).alloc _
  have b0 : W2.heap[q]? = some (.cells c.cells.toArray 27 (0, 0)) := by rw [hW2]; exact heap_new_at _ _ hq.symm
  have hs2 : W2.heap.size = q + 1 := by rw [hW2, hq]; simp
  have hq' := Lib.hid hq
  have hcy := Lib.hid (fun W (ho : Only (fun _ => False) W2 W) => cyv_of (ho.heap b0 (fun h => h)))
  obtain ⟨cv, hcv⟩ : ∃ cv, cv = c.val := ⟨_, rfl⟩
  have kfx := Lib.hid (fixed30_any (hw.new hO2))
  have kfe := Lib.hid (fun W (ho : Only (fun _ => False) W2 W) => show Calls Tryz.prog 33 #[cv] W (FewEnd c pl W) from by rw [hcv]; exact few30_any (hC.new (hO2.trans' ho)))
  obtain ⟨OK, hOK⟩ : ∃ P : Prop, P = (fewB c pl.ts = true ∧ ∀ (i : Nat) t, pl.ts[i]? = some t → t.pe ≤ 1500) := ⟨_, rfl⟩
  unfold FewEnd at kfe
  rw [← hOK] at kfe
  have hcf := Lib.hid (fun (h : OK) W (ho : Only (fun _ => False) W2 W) => show Cf0 W c d pl from by
    rw [hOK] at h
    exact few_cf0 (hw.new (hO2.trans' ho)) (hC.new (hO2.trans' ho)) h.1)
  have hpe := Lib.hid (fun (h : OK) => show ∀ (i : Nat) t, pl.ts[i]? = some t → t.pe ≤ 1500 from by rw [hOK] at h; exact h.2)
  have hlen := ts_len hC
  have kal := Lib.hid (fun (h : OK) W (ho : Only (fun _ => False) W2 W) => show Calls Tryz.prog 36 #[cv] W (FaEnd c d pl W) from by rw [hcv]; exact fall_any (hcf.out h W ho))
  have kmo := Lib.hid (fun (h : OK) W (ho : Only (fun _ => False) W2 W) i (hi : i < c.ta.n) => show Calls Tryz.prog 34 #[cv, .int .i64 (i : Int)] W (MoEnd c d pl i W) from by rw [hcv]; exact most_any (hcf.out h W ho) hi)
  obtain ⟨V, hV⟩ : ∃ V, V = confZ c d pl := ⟨_, rfl⟩
  have kck := Lib.hid (fun (h : OK) W (ho : Only (fun _ => False) W2 W) => show Calls Tryz.prog 14 #[cv] W (GrowI V W) from by rw [hcv, hV]; exact rconfCheck_any (hcf.out h W ho).A)
  obtain ⟨WF, hWF⟩ : ∃ f : Nat → Int, f = fun (i : Nat) => if (i : Int) = z then x else flI pl i := ⟨_, rfl⟩
  have kwi := Lib.hid (fun (h : OK) W (ho : Only (fun _ => False) W2 W) => show Calls Tryz.prog 39 #[cv, .int .i64 z, .int .i64 x] W (D30 c.ta.n WF W) from by rw [hcv, hWF]; exact with_d30 (hcf.out h W ho) z x)
  have klo := Lib.hid (fun (h : OK) i (hi : i < c.ta.n) => show ∃ L : Int, ∀ W, Only (fun _ => False) W2 W → Calls Tryz.prog 37 #[cv, .int .i64 (i : Int)] W (GrowI L W) ∧ Calls Tryz.prog 38 #[cv, .int .i64 (i : Int), .int .i64 64] W (GrowI L W) from by
    obtain ⟨⟨t, l⟩, hp⟩ : ∃ y, pl[i]? = some y := ⟨_, List.getElem?_eq_getElem (by omega)⟩
    have hf := (hpe.out h)
    have hsm := hC.small (by rw [hOK] at h; exact h.1)
    have hl9 : l.length ≤ 1000 := (hcf.out h W2 (Only.refl _ _)).o i t l hp
    refine ⟨lonZ t.th (ceZ d.ce) c.ce.n l c.h c.mi 64, fun W ho => ⟨?_, ?_⟩⟩
    · rw [hcv]
      exact fix_any (fun W3 ho3 => longest_any (hC.new (hO2.trans' (ho.trans' ho3))) (by omega) hp hl9 (by omega) 64)
    · rw [hcv]
      exact rlong_any (hC.new (hO2.trans' ho)) (by omega) (fun W3 ho3 => (hC.new (hO2.trans' (ho.trans' ho3))).ce) hp hl9 64)
  obtain ⟨FL, hFL⟩ : ∃ f, f = flI pl := ⟨_, rfl⟩
  have hwf := Lib.hid (fun (i : Nat) => show ((i : Int) = z → WF i = x) ∧ (¬ (i : Int) = z → WF i = FL i) from by
    rw [hWF, hFL]
    exact ⟨fun h => if_pos h, fun h => if_neg h⟩)
  have hta := Lib.hid (fun W (ho : Only (fun _ => False) W2 W) i (hx : i < c.ta.n) => show ∃ b off t, c.ta.A = some ⟨b, off, none⟩ ∧ b < W.heap.size ∧ TaskCells W b (off + i * 7) t ∧ FL i = t.fl from by
    have hT := (hC.new (hO2.trans' ho)).t
    obtain ⟨t, ht⟩ : ∃ t, pl.ts[i]? = some t := ⟨_, List.getElem?_eq_getElem (by rw [hT.len]; exact hx)⟩
    obtain ⟨b, off, hA, hb, hCe⟩ := hT.at_ i t ht
    exact ⟨b, off, t, hA, hb, hCe, by rw [hFL]; exact flI_at ht⟩)
  obtain ⟨MO, hMO⟩ : ∃ P, P = Mo c d pl := ⟨_, rfl⟩
  unfold MoEnd at kmo
  unfold FaEnd at kal
  rw [← hMO] at kmo kal
  have hun := Lib.hid (fun i (hi : i < c.ta.n) m m2 a b (h : MO i m a) (g : MO i m2 b) => show m = m2 ∧ a = b from by rw [hMO] at h g; exact h.uniq hi hlen g)
  obtain ⟨Z, hZ⟩ : ∃ Z, Z = GrowB true w := ⟨_, rfl⟩
  rw [← hZ]
  have hfin := Lib.hid (fun W (ho : Only (fun _ => False) W2 W) => show Z (.returned (.bool true)) W from by rw [hZ]; exact ⟨rfl, hO2.trans' ho⟩)
  rw [← hcv]
  unfold ConfV.val at hcv
  subst hcv
  unfold CYv at hcy
  unfold ConfV.cells at hW2
  have hW2' := Lib.hid hW2
  have hs2' := Lib.hid hs2
  clear hw hC hlen hq hO2 b0 hW2 hs2 hOK hZ hcf hpe hV hWF hFL hMO
  obtain ⟨c0, wy, h, mi, ⟨mA, mn, mc⟩, g, ⟨cA, cn, cc⟩, ⟨eA, en, ec⟩, ⟨tA, tn, tc⟩, ⟨lA, ln, lc⟩⟩ := c
  dsimp only at *
  obtain ⟨d0, d1, d2, d3, d4, d5, d6, d7, d8, d9, dl⟩ := hcy.out W2 (Only.refl _ _)
  go_enter Tryz.func9, Tryz.ntmps9
  go_upto_region 1 with fail
  rw [← hq'.out]
  rw [← hW2'.out]
  go_wp2_with fail
  refine kfx.out.mono ?_
  rintro e w3 ⟨rfl, ho⟩
  have hO3 := Lib.hid ho
  clear ho kfx d0 d1 d2 d3 d4 d5 d6 d7 d8 d9 dl
  obtain ⟨d0, d1, d2, d3, d4, d5, d6, d7, d8, d9, dl⟩ := hcy.out w3 hO3.out
  go_wp2_with fail
  refine (kfe.out w3 hO3.out).mono ?_
  rintro e w4 ⟨b, rfl, hb, ho⟩
  have hO4 := Lib.hid (hO3.out.trans' ho)
  clear ho kfe d0 d1 d2 d3 d4 d5 d6 d7 d8 d9 dl
  have hb' := Lib.hid hb
  clear hb
  obtain ⟨d0, d1, d2, d3, d4, d5, d6, d7, d8, d9, dl⟩ := hcy.out w4 hO4.out
  cases b with
  | false =>
    have hf := Lib.hid (hfin.out w4 hO4.out)
    clear d0 d1 d2 d3 d4 d5 d6 d7 d8 d9 dl
    go_wp2
    exact hf.out
  | true =>
    have hok := hb'.out rfl
    by_cases ht4 : (4 : Int) < (tn : Int)
    · have hf := Lib.hid (hfin.out w4 hO4.out)
      clear hok
      go_wp2
      exact hf.out
    · have ka := Lib.hid (kal.out hok w4 hO4.out)
      have km := Lib.hid (kmo.out hok)
      have kc := Lib.hid (kck.out hok)
      have kw := Lib.hid (kwi.out hok)
      have kl := Lib.hid (klo.out hok)
      have ht5 : tn ≤ 4 := by omega
      clear hok hb' kal kmo kck kwi klo ht4
      go_wp2_with fail
      refine ka.out.mono ?_
      rintro e w5 ⟨ho, hcs⟩
      have hO5 := Lib.hid (hO4.out.trans' ho)
      have hcs' : ∃ (OKB : Bool) (A : Option Addr) (ln9 cap : Nat), e = .returned (.tuple #[.slice A ln9 cap, .bool OKB]) ∧ (OKB = false → ln9 = 0 ∧ ∃ i, i < tn ∧ MO i 0 false) ∧ (OKB = true → ln9 = tn ∧ ∃ B : List Int, (∀ W, Only (fun _ => False) w5 W → ∀ k, k < tn → ∃ g off, A = some ⟨g, off, none⟩ ∧ g < W.heap.size ∧ W.cell? ⟨g, off + k, none⟩ = some (.int .i64 (B.getD k 0))) ∧ ∀ i, i < tn → MO i (B.getD i 0) true) := by
        rcases hcs with ⟨rfl, h⟩ | ⟨A, cap, hh, B, rfl, hW, -, hB⟩
        · exact ⟨false, none, 0, 0, rfl, fun _ => ⟨rfl, h⟩, (fun h => by cases h)⟩
        · exact ⟨true, A, tn, cap, rfl, (fun h => by cases h), fun _ => ⟨rfl, B, fun W hW9 k hk => row_cellT (hW.kept hW9 (fun _ _ h => h)) hk, hB⟩⟩
      obtain ⟨OKB, LA, ln9, lcap, rfl, hk0, hk1⟩ := hcs'
      have hk0' := Lib.hid hk0
      have hk1' := Lib.hid hk1
      clear ho hcs hk0 hk1 ka d0 d1 d2 d3 d4 d5 d6 d7 d8 d9 dl
      obtain ⟨d0, d1, d2, d3, d4, d5, d6, d7, d8, d9, dl⟩ := hcy.out w5 hO5.out
      go_wp2
      clear d0 d1 d2 d3 d4 d5 d6 d7 d8 d9 dl
      go_loopw [9, 10, 11, 12, 13, 14, 15, 35] (fun u9 _ _ _ _ _ _ i wr => ∃ (k : Nat) (F : Bool), i = .int .i64 k ∧ k ≤ tn ∧ u9 = .bool F ∧ Hid ((OKB = true → F = true) ∧ (F = true → ∀ j, j < k → ∃ m, MO j m true)) ∧ Hid (Only (fun _ => False) w5 wr)) (fun _ _ _ _ _ _ _ i _ => tn - (intOf i).toNat)
      case atStart => exact ⟨0, true, rfl, Nat.zero_le _, rfl, Lib.hid ⟨fun _ => rfl, fun _ j hj => by omega⟩, Lib.hid (Only.refl _ _)⟩
      case round =>
        obtain ⟨k, F, rfl, hk, rfl, hI, hO⟩ := hrel
        obtain ⟨ws, hws⟩ : ∃ ws : World, ws = wr := ⟨_, rfl⟩
        subst hws
        have hOs := Lib.hid (hO5.out.trans' hO.out)
        by_cases hkn : k < tn
        · have hkn' : (k : Int) < (tn : Int) := by omega
          obtain ⟨tb, toff, t, rfl, htb, hCe, hfl⟩ := hta.out ws hOs.out k hkn
          obtain ⟨f0, f1, f2, f3, f4, f5, f6⟩ := hCe
          obtain ⟨tp, tth, tpe, tde, tfr, tfl, ⟨oA, on, oc⟩⟩ := t
          dsimp only at f0 f1 f2 f3 f4 f5 f6 hfl
          obtain ⟨Y, hY⟩ : ∃ Y, Y = ws.heap.size := ⟨_, rfl⟩
          obtain ⟨w6, hw6⟩ : ∃ w6, w6 = ws.alloc (.cells #[.int .i64 tp, .int .i64 tth, .int .i64 tpe, .int .i64 tde, .int .i64 tfr, .int .i64 tfl, .slice oA on oc] 49) := ⟨_, rfl⟩
          have hp6 := Lib.hid (show Only (fun _ => False) ws w6 from by rw [hw6]; exact (Only.refl _ _).alloc _)
          have hY6 := Lib.hid (show w6.heap[Y]? = some (.cells ([.int .i64 tp, .int .i64 tth, .int .i64 tpe, .int .i64 tde, .int .i64 tfr, .int .i64 tfl, .slice oA on oc]).toArray 49 (0, 0)) from by rw [hw6]; exact heap_new_at _ _ hY.symm)
          have hw6' := Lib.hid hw6
          have hY' := Lib.hid hY
          have hfl' := Lib.hid hfl
          clear hw6 hY hfl
          go_upto_region 10 with fail
          rw [← hw6'.out, ← hY'.out]
          have hO6 := Lib.hid (hOs.out.trans' hp6.out)
          clear f0 f1 f2 f3 f4 f5 f6 htb hw6' hY'
          obtain ⟨d0, d1, d2, d3, d4, d5, d6, d7, d8, d9, dl⟩ := hcy.out w6 hO6.out
          go_wp2_with fail
          refine (km.out w6 hO6.out k hkn).mono ?_
          rintro e w7 ⟨m, ok2, rfl, hmo, ho⟩
          have hp7 := Lib.hid (hp6.out.trans' ho)
          have hO7 := Lib.hid (hO6.out.trans' ho)
          have hY7 := Lib.hid (ho.heap hY6.out (fun h => h))
          have hmo' := Lib.hid hmo
          have hIn := Lib.hid (show (OKB = true → (F && ok2) = true) ∧ ((F && ok2) = true → ∀ j, j < k + 1 → ∃ m, MO j m true) from by
            refine ⟨fun h => ?_, fun h j hj => ?_⟩
            · obtain ⟨-, B, -, hB⟩ := hk1'.out h
              have := (hun.out k hkn _ _ _ _ hmo (hB k hkn)).2
              rw [this, hI.out.1 h]
              rfl
            · rw [Bool.and_eq_true] at h
              by_cases e : j = k
              · subst e; rw [← h.2]; exact ⟨m, hmo⟩
              · exact hI.out.2 h.1 j (by omega))
          clear ho hmo hI hY6 hp6 hO6 d0 d1 d2 d3 d4 d5 d6 d7 d8 d9 dl
          obtain ⟨FF, hFF⟩ : ∃ b, b = (F && ok2) := ⟨_, rfl⟩
          rw [← hFF] at hIn
          have hFF' := Lib.hid hFF
          clear hFF
          obtain ⟨LV, hLV⟩ := kl.out k hkn
          have hLV' := Lib.hid hLV
          clear hLV
          go_upto_region 11 with fail
          go_cut [9] from 46 to 49 (fun v wd => v = .bool FF ∧ wd = w7)
          case first =>
            cases F with
            | false =>
              go_wp2
              go_meet
              case rel => exact ⟨by rw [hFF'.out]; rfl, rfl⟩
            | true =>
              go_wp2
              go_meet
              case rel => exact ⟨by rw [hFF'.out]; rfl, rfl⟩
          obtain ⟨rfl, hwc⟩ := hcut
          subst hwc
          clear hFF'
          obtain ⟨d0, d1, d2, d3, d4, d5, d6, d7, d8, d9, dl⟩ := hcy.out wc hO7.out
          go_upto_region 12 with fail
          go_cut [64] from 50 to 64 (fun v wd => v = .bool false ∧ wd = wc)
          case first =>
            cases OKB with
            | false =>
              go_wp2
              go_meet
              case rel => exact ⟨rfl, rfl⟩
            | true =>
              obtain ⟨hln, B, hBc, hB⟩ := hk1'.out rfl
              obtain ⟨g1, o1, rfl, hl1, hc1⟩ := hBc wc (hO.out.trans' hp7.out) k hkn
              rw [← (hun.out k hkn _ _ _ _ hmo'.out (hB k hkn)).1] at hc1
              have n1 : (m != m) = false := by simp
              have n3 : decide ((tn : Int) ≤ (k : Int)) = false := by simp; omega
              subst hln
              clear hBc hB
              go_wp2
              go_meet
              case rel => exact ⟨congrArg Value.bool (decide_eq_false (by omega)), rfl⟩
          obtain ⟨rfl, hwc2⟩ := hcut
          subst hwc2
          obtain ⟨w8, hw8⟩ : ∃ w8 : World, w8 = wc := ⟨_, rfl⟩
          subst hw8
          go_upto_region 14 with fail
          go_cut [76] from 65 to 76 (fun v wd => v = .bool false ∧ Only (fun _ => False) w8 wd)
          case first =>
            have p0 := wd_cell d0
            have p1 := wd_cell d1
            have p2 := wd_cell d2
            have p3 := wd_cell d3
            have p4 := wd_cell d4
            have p5 := wd_cell d5
            have p6 := wd_cell d6
            have p7 := wd_cell d7
            have p8 := wd_cell d8
            have p9 := wd_cell d9
            have hex := wd_ex w8
            have r1 := Lib.hid (fun (y : Wd w8) => Calls.wd (x := y) (kc.out y.W (hO7.out.trans' y.ok)))
            have r2 := Lib.hid (fun (y : Wd w8) => Calls.wd (x := y) (hLV'.out y.W (hO7.out.trans' y.ok)).1)
            have r3 := Lib.hid (fun (y : Wd w8) => Calls.wd (x := y) (hLV'.out y.W (hO7.out.trans' y.ok)).2)
            have n1 : (LV != LV) = false := by simp
            by_cases hv : V = 0
            · have hve : (V == 0) = true := by simp [hv]
              clear hv
              refine wp_region_wd (by kernel_rfl) (by kernel_rfl) ?_
              repeat (go_big_quiet_step (first | (go_at_call 14; with_reducible exact r1.out _) | (go_at_call 37; with_reducible exact r2.out _) | (go_at_call 38; with_reducible exact r3.out _)))
              refine wpQuiet_nil ?_
              rintro _ ⟨v, rfl⟩
              have hvo := Lib.hid v.ok
              go_wp2
              go_meet
              case rel => exact ⟨rfl, hvo.out⟩
            · have hve : (V == 0) = false := by simp [hv]
              clear hv
              refine wp_region_wd (by kernel_rfl) (by kernel_rfl) ?_
              repeat (go_big_quiet_step (first | (go_at_call 14; with_reducible exact r1.out _) | (go_at_call 37; with_reducible exact r2.out _) | (go_at_call 38; with_reducible exact r3.out _)))
              refine wpQuiet_nil ?_
              rintro _ ⟨v, rfl⟩
              have hvo := Lib.hid v.ok
              go_wp2
              go_meet
              case rel => exact ⟨rfl, hvo.out⟩
          obtain ⟨rfl, hOc⟩ := hcut
          obtain ⟨w9, hw9⟩ : ∃ w9 : World, w9 = wc := ⟨_, rfl⟩
          subst hw9
          have hp9 := Lib.hid (hp7.out.trans' hOc)
          have hO9 := Lib.hid (hO7.out.trans' hOc)
          have hY9 := Lib.hid (hOc.heap hY7.out (fun h => h))
          clear hOc d0 d1 d2 d3 d4 d5 d6 d7 d8 d9 dl hLV' hmo' hY7
          obtain ⟨d0, d1, d2, d3, d4, d5, d6, d7, d8, d9, dl⟩ := hcy.out w9 hO9.out
          go_wp2_with fail
          refine (kw.out w9 hO9.out).mono ?_
          rintro e w10 ⟨y, rfl, ho, hyn, hyc⟩
          have hp10 := Lib.hid (hp9.out.trans' ho)
          have hO10 := Lib.hid (hO9.out.trans' ho)
          have hY10 := Lib.hid (ho.heap hY9.out (fun h => h))
          have hyc' := Lib.hid hyc
          have hyn' := Lib.hid hyn
          clear ho hyc hyn hY9 hp9 hO9 d0 d1 d2 d3 d4 d5 d6 d7 d8 d9 dl
          go_upto_region 17 with fail
          obtain ⟨X, hX⟩ : ∃ X, X = w10.heap.size := ⟨_, rfl⟩
          obtain ⟨w11, hw11⟩ : ∃ W, W = w10.alloc (.cells #[.int .i64 y.s, .int .i64 y.wy, .int .i64 y.h, .int .i64 y.mi, .slice y.mb.A y.mb.n y.mb.cap, .int .i64 y.g, .slice y.cn.A y.cn.n y.cn.cap, .slice y.ce.A y.ce.n y.ce.cap, .slice y.ta.A y.ta.n y.ta.cap, .slice y.li.A y.li.n y.li.cap] 27) := ⟨_, rfl⟩
          rw [← hw11, ← hX]
          have hX11 := Lib.hid (show w11.heap[X]? = some (.cells ([.int .i64 y.s, .int .i64 y.wy, .int .i64 y.h, .int .i64 y.mi, .slice y.mb.A y.mb.n y.mb.cap, .int .i64 y.g, .slice y.cn.A y.cn.n y.cn.cap, .slice y.ce.A y.ce.n y.ce.cap, .slice y.ta.A y.ta.n y.ta.cap, .slice y.li.A y.li.n y.li.cap] : List Value).toArray 27 (0, 0)) from by rw [hw11, hX]; exact heap_new_at _ _ rfl)
          have hO1011 := Lib.hid (show Only (fun _ => False) w10 w11 from by rw [hw11]; exact (Only.refl _ _).alloc _)
          clear hw11 hX
          have hY11 := Lib.hid (hO1011.out.heap hY10.out (fun h => h))
          have y5 := row_cell hY11.out (i := 5) rfl
          have yl := row_lt hY11.out
          obtain ⟨wf, hwfk⟩ : ∃ f, f = WF k := ⟨_, rfl⟩
          have hwk := hwf.out k
          rw [← hwfk, hfl'.out] at hwk
          have hwk' := Lib.hid hwk
          clear hwk
          go_upto_if 85 with fail
          go_cut [15] from 85 to 86 (fun v wd => v = .int .i64 wf ∧ wd = w11)
          case first =>
            by_cases hkz : (k : Int) = z
            · have hke : ((k : Int) == z) = true := by simp [hkz]
              have hwx := Lib.hid (hwk'.out.1 hkz)
              clear hkz
              go_wp2
              go_meet
              case rel => exact ⟨by rw [hwx.out], rfl⟩
            · have hke : ((k : Int) == z) = false := by simp [hkz]
              have hwx := Lib.hid (hwk'.out.2 hkz)
              clear hkz
              go_wp2
              go_meet
              case rel => exact ⟨by rw [hwx.out], rfl⟩
          obtain ⟨rfl, hwc⟩ := hcut
          subst hwc
          obtain ⟨w12, hw12⟩ : ∃ w12 : World, w12 = wc := ⟨_, rfl⟩
          subst hw12
          have hO12 := Lib.hid (hO10.out.trans' hO1011.out)
          have hOl := Lib.hid (hO.out.trans' (hp10.out.trans' hO1011.out))
          obtain ⟨d0, d1, d2, d3, d4, d5, d6, d7, d8, d9, dl⟩ := hcy.out w12 hO12.out
          obtain ⟨tb2, toff2, t2, hA2, htb2, hCe2, hfl2⟩ := hta.out w12 hO12.out k hkn
          cases hA2
          have q5 := hCe2.c5
          rw [← hfl2, hfl'.out] at q5
          obtain ⟨g3, o3, hA3, hl3, hc3⟩ := hyc'.out w12 hO1011.out k hkn
          rw [← hwfk] at hc3
          have x8 := row_cell hX11.out (i := 8) rfl
          have xl := row_lt hX11.out
          rw [hA3, hyn'.out] at x8
          have n1 : (wf != wf) = false := by simp
          have n2 : (tfl != tfl) = false := by simp
          have n3 : ((tn : Int) != (tn : Int)) = false := by simp
          clear hCe2 hfl2 hA3 hwfk hwk' hyc' hyn' hY10 hX11 hp10 hO10 hO1011
          go_upto_region 20 with fail
          go_quiet (fail)
          go_wp2
          go_roundw
          case rel => exact ⟨k + 1, FF, by go_num, by omega, rfl, hIn, Lib.hid (hOl.out.drewN _)⟩
          case measure => simp [intOf]; omega
        · obtain rfl : k = tn := by omega
          have hkn' : ¬ (k : Int) < (k : Int) := by omega
          have hf := Lib.hid (hfin.out ws hOs.out)
          cases OKB with
          | true =>
            obtain rfl := hI.out.1 rfl
            clear hk0' hk1' hI
            go_wp2
            exact hf.out
          | false =>
            obtain ⟨rfl, i0, hi0, hm0⟩ := hk0'.out rfl
            have hF : F = false := by
              cases F with
              | false => rfl
              | true =>
                obtain ⟨m, hm⟩ := hI.out.2 rfl i0 hi0
                have := (hun.out i0 hi0 _ _ _ _ hm hm0).2
                cases this
            subst hF
            clear hk0' hk1' hI hm0 hi0
            go_wp2
            exact hf.out
theorem fa30_law (c : ConfV) (a b : Int) (W : World) (hw : Words W) (g0 : ∃ (dd : ConfL) (pl : Tks), ConfIn W c dd pl) (_g1 : (Lit.int .i64 a).wf = true) (_g2 : (Lit.int .i64 b).wf = true) :
    Calls Tryz.prog 9 #[c.val, .int .i64 a, .int .i64 b] W fun e w' => e = .returned (.bool true) ∧ Below W.heap.size W w' := by
  obtain ⟨dd, pl, hC⟩ := g0
  exact (fa30_any hw hC a b).mono fun e w' ⟨he, hO⟩ => ⟨he, hO.below (Nat.le_refl _) (fun _ h => h.elim)⟩
end Twn
end Go.Proofs.YtlbinlhaejhobaaGreatDoor
