/- AssignPasses, walked. Written by mka29.py. -/
import Derived.Test.YtlbinlhaejhobaaGreatDoorNone29
namespace Go.Proofs.YtlbinlhaejhobaaGreatDoor
namespace Twn
open Go Go.RowKit Krn Asn Pre Adm
open Bch (GrowU)

theorem thI_win {n : Nat} {W : World} {A : Option Addr} {cap : Nat} {h : Option Nat} {P : Nat → Int} (hW : Win W 3 1 (.slice A n cap) h n (icells (mixL P n n))) {k : Nat} (hk : k < n) : ∃ g off, A = some ⟨g, off, none⟩ ∧ g < W.heap.size ∧ W.cell? ⟨g, off + k, none⟩ = some (.int .i64 (P k)) := by
  obtain ⟨g, off, cap', -, hv, -, -, hlt, hc, -⟩ := hW.at_ (by omega)
  injection hv with e1 _ _
  refine ⟨g, off, e1, hlt, hc k _ ?_⟩
  unfold icells mixL
  rw [List.getElem?_map, List.getElem?_map, List.getElem?_range hk]
  show some (Value.int .i64 (if k < n then P k else 0)) = _
  rw [if_pos hk]
/-- What With leaves, as the law looks at it. -/
def DEnd (tn n : Nat) (T : List Int) (w : World) (e : Ending) (w' : World) : Prop :=
  ∃ (x : ConfV) (E : Int), e = .returned (.tuple #[.agg #[.int .i64 x.s, .int .i64 x.wy, .int .i64 x.h, .int .i64 x.mi, .slice x.mb.A x.mb.n x.mb.cap, .int .i64 x.g, .slice x.cn.A x.cn.n x.cn.cap, .slice x.ce.A x.ce.n x.ce.cap, .slice x.ta.A x.ta.n x.ta.cap, .slice x.li.A x.li.n x.li.cap], .int .i64 E]) ∧ Only (fun _ => False) w w' ∧ (n ≠ tn → E = 1) ∧ (n = tn → x.ta.n = 0 ∨ (x.ta.n = tn ∧ ∀ W, Only (fun _ => False) w' W → ∀ i, i < tn → ∃ g off, x.ta.A = some ⟨g, off, none⟩ ∧ g < W.heap.size ∧ W.cell? ⟨g, off + i * 7 + 1, none⟩ = some (.int .i64 (T.getD i 0))))
theorem with_d {w : World} {c : ConfV} {d : ConfL} {pl : Tks} (h0 : Cf0 w c d pl) {A : Option Addr} {n cap : Nat} {T : List Int} (hT0 : IntsAt w ⟨A, n, cap⟩ T) (hn9 : n ≤ 1000000) : Calls Tryz.prog 26 #[c.val, .slice A n cap] w (DEnd c.ta.n n T w) := by
  have hTn : T.length = n := hT0.len
  refine (with_any h0 hT0 hn9).mono ?_
  rintro e w' ⟨ho, h1, h2, h3⟩
  by_cases hn : n = c.ta.n
  · by_cases hz : confZ c d (chg (thL T) pl) = 0
    · obtain ⟨c', us, tb, tp, rfl, hF⟩ := h3 (by omega) hz
      refine ⟨c', 0, rfl, ho, fun h => absurd hn h, fun _ => .inr ⟨(key_nums hF.key).2.2.2.2.2.2.2.2.1, fun W hW i hi => ?_⟩⟩
      have hI := ((hF.new hW).conf h0.C).t
      obtain ⟨⟨t, l⟩, hp⟩ : ∃ y, pl[i]? = some y := ⟨_, List.getElem?_eq_getElem (by rw [h0.len]; exact hi)⟩
      obtain ⟨o, ho2⟩ := hF.tw.same i t l hp
      obtain ⟨b, off, q1, q2, q3⟩ := hI.at_ i _ (ts_some ho2)
      exact ⟨b, off, q1, q2, q3.c1⟩
    · obtain rfl := h2 (by omega) hz
      exact ⟨⟨0, 0, 0, 0, ⟨none, 0, 0⟩, 0, ⟨none, 0, 0⟩, ⟨none, 0, 0⟩, ⟨none, 0, 0⟩, ⟨none, 0, 0⟩⟩, _, rfl, ho, fun h => absurd hn h, fun _ => .inl rfl⟩
  · obtain rfl := h1 (by omega)
    exact ⟨⟨0, 0, 0, 0, ⟨none, 0, 0⟩, 0, ⟨none, 0, 0⟩, ⟨none, 0, 0⟩, ⟨none, 0, 0⟩, ⟨none, 0, 0⟩⟩, 1, rfl, ho, fun _ => rfl, fun h => absurd h hn⟩
set_option maxRecDepth 100000 in
set_option maxHeartbeats 8000000 in
theorem pas29_any {w : World} {c : ConfV} {d : ConfL} {pl : Tks} (hw : Words w) (hC : ConfIn w c d pl) {A : Option Addr} {n cap : Nat} {T : List Int} (hT0 : IntsAt w ⟨A, n, cap⟩ T) :
    Calls Tryz.prog 4 #[c.val, .slice A n cap] w (GrowB true w) := by
  obtain ⟨q, hq⟩ : ∃ q, q = w.heap.size := ⟨_, rfl⟩
  obtain ⟨W2, hW2⟩ : ∃ W2, W2 = w.alloc (.cells c.cells.toArray 27) := ⟨_, rfl⟩
  have hO2 : Only (fun _ => False) w W2 := by rw [hW2]; exact (Only.refl _ w).alloc _
  have b0 : W2.heap[q]? = some (.cells c.cells.toArray 27 (0, 0)) := by rw [hW2]; exact heap_new_at _ _ hq.symm
  have hs2 : W2.heap.size = q + 1 := by rw [hW2, hq]; simp
  have hq' := Lib.hid hq
  have hcy := Lib.hid (fun W (ho : Only (fun _ => False) W2 W) => cyv_of (ho.heap b0 (fun h => h)))
  obtain ⟨cv, hcv⟩ : ∃ cv, cv = c.val := ⟨_, rfl⟩
  have kfx := Lib.hid (fixed29_any (hw.new hO2))
  have kfe := Lib.hid (fun W (ho : Only (fun _ => False) W2 W) => show Calls Tryz.prog 25 #[cv] W (FewEnd c pl W) from by rw [hcv]; exact few29_any (hC.new (hO2.trans' ho)))
  obtain ⟨OK, hOK⟩ : ∃ P : Prop, P = (fewB c pl.ts = true ∧ ∀ (i : Nat) t, pl.ts[i]? = some t → t.pe ≤ 1500) := ⟨_, rfl⟩
  unfold FewEnd at kfe
  rw [← hOK] at kfe
  have hcf := Lib.hid (fun (h : OK) W (ho : Only (fun _ => False) W2 W) => show Cf0 W c d pl from by
    rw [hOK] at h
    exact few_cf0 (hw.new (hO2.trans' ho)) (hC.new (hO2.trans' ho)) h.1)
  have hpe := Lib.hid (fun (h : OK) => show ∀ (i : Nat) t, pl.ts[i]? = some t → t.pe ≤ 1500 from by rw [hOK] at h; exact h.2)
  have hlen := ts_len hC
  have hTn : T.length = n := hT0.len
  obtain ⟨PT, hPT⟩ : ∃ b, b = pasB c d pl T := ⟨_, rfl⟩
  have kpl := Lib.hid (fun (h : OK) (hn : n ≤ 30) W (ho : Only (fun _ => False) W2 W) => show Calls Tryz.prog 27 #[cv, .slice A n cap] W (GrowB PT W) from by
    rw [hcv, hPT]
    exact passes_any (hcf.out h W ho) (hT0.new (hO2.trans' ho)) (by omega))
  have krp := Lib.hid (fun (h : OK) (hn : n ≤ 30) W (ho : Only (fun _ => False) W2 W) => show Calls Tryz.prog 28 #[cv, .slice A n cap] W (GrowB PT W) from by
    rw [hcv, hPT]
    exact rpasses_any (hcf.out h W ho) (hpe.out h) (hT0.new (hO2.trans' ho)) (by omega))
  have kwi := Lib.hid (fun (h : OK) (hn : n ≤ 30) W (ho : Only (fun _ => False) W2 W) => show Calls Tryz.prog 26 #[cv, .slice A n cap] W (DEnd c.ta.n n T W) from by rw [hcv]; exact with_d (hcf.out h W ho) (hT0.new (hO2.trans' ho)) (by omega))
  have kle := Lib.hid (fun (h : OK) W (ho : Only (fun _ => False) W2 W) => show Calls Tryz.prog 29 #[cv] W (LeastEnd pl c.ta.n W) from by rw [hcv]; exact least_any (hcf.out h W ho))
  have ktr := Lib.hid (fun (h : OK) W (ho : Only (fun _ => False) W2 W) => show Calls Tryz.prog 30 #[cv] W (GrowI (1 + (c.ta.n : Int) * ((c.ta.n : Int) + 1)) W) from by rw [hcv]; exact tries_any (hcf.out h W ho))
  have hn1 := Lib.hid (fun (h : OK) => (hcf.out h W2 (Only.refl _ _)).n)
  obtain ⟨PP, hPP⟩ : ∃ P, P = prio pl.ts := ⟨_, rfl⟩
  obtain ⟨TH, hTH⟩ : ∃ P, P = thI pl := ⟨_, rfl⟩
  unfold LeastEnd at kle
  have hta := Lib.hid (fun W (ho : Only (fun _ => False) W2 W) x (hx : x < c.ta.n) => show ∃ b off t, c.ta.A = some ⟨b, off, none⟩ ∧ b < W.heap.size ∧ TaskCells W b (off + x * 7) t ∧ PP x = t.p ∧ TH x = t.th from by
    have hT := (hC.new (hO2.trans' ho)).t
    obtain ⟨t, ht⟩ : ∃ t, pl.ts[x]? = some t := ⟨_, List.getElem?_eq_getElem (by rw [hT.len]; exact hx)⟩
    obtain ⟨b, off, hA, hb, hCe⟩ := hT.at_ x t ht
    exact ⟨b, off, t, hA, hb, hCe, by rw [hPP]; exact prio_at ht, by rw [hTH]; exact thI_at ht⟩)
  rw [← mixL_all pl c.ta.n hlen, ← hPP] at kle
  have hTa := Lib.hid (fun W (ho : Only (fun _ => False) W2 W) k (hk : k < n) => show ∃ b off, A = some ⟨b, off, none⟩ ∧ b < W.heap.size ∧ W.cell? ⟨b, off + k, none⟩ = some (.int .i64 (T.getD k 0)) from by
    obtain ⟨z, hz⟩ : ∃ z, T[k]? = some z := ⟨_, List.getElem?_eq_getElem (by omega)⟩
    obtain ⟨b, off, q1, q2, q3⟩ := (hT0.new (hO2.trans' ho)).at_ k z hz
    exact ⟨b, off, q1, q2, by rw [List.getD_eq_getElem?_getD, hz]; exact q3⟩)
  have hmk := Lib.hid (fun (h : c.ta.n ≤ 1000) W => run_make_list (P := Tryz.prog) W 24 3 (.int .i64 0) 8 rfl infoI rfl c.ta.n (by omega) (by omega))
  have hW0 := Lib.hid (fun (h : c.ta.n ≤ 1000) W => show Win (World.alloc W (.cells (List.replicate c.ta.n (.int .i64 0)).toArray 3)) 3 1 (.slice (some ⟨W.heap.size, 0, none⟩) c.ta.n c.ta.n) (some W.heap.size) c.ta.n (icells (mixL TH c.ta.n 0)) from by
    rw [mixL_zero, show icells (List.replicate c.ta.n 0) = List.replicate c.ta.n (.int .i64 0) from by unfold icells; rw [List.map_replicate]]
    exact Win.of_row (heap_new_at _ _ rfl) (by simp) (by unfold maxLen; omega))
  obtain ⟨Z, hZ⟩ : ∃ Z, Z = GrowB true w := ⟨_, rfl⟩
  rw [← hZ]
  have hfin := Lib.hid (fun W (ho : Only (fun _ => False) W2 W) => show Z (.returned (.bool true)) W from by rw [hZ]; exact ⟨rfl, hO2.trans' ho⟩)
  rw [← hcv]
  unfold ConfV.val at hcv
  subst hcv
  unfold CYv at hcy
  unfold ConfV.cells at hW2
  have hW2' := Lib.hid hW2
  have hs2' := Lib.hid hs2
  clear hw hC hT0 hTn hlen hq hO2 b0 hW2 hs2 hOK hPT hPP hTH hZ hcf hpe
  obtain ⟨c0, wy, h, mi, ⟨mA, mn, mc⟩, g, ⟨cA, cn, cc⟩, ⟨eA, en, ec⟩, ⟨tA, tn, tc⟩, ⟨lA, ln, lc⟩⟩ := c
  dsimp only at *
  obtain ⟨d0, d1, d2, d3, d4, d5, d6, d7, d8, d9, dl⟩ := hcy.out W2 (Only.refl _ _)
  go_enter Tryz.func4, Tryz.ntmps4
  go_upto_region 1 with fail
  rw [← hq'.out]
  rw [← hW2'.out]
  go_wp2_with fail
  refine kfx.out.mono ?_
  rintro e w3 ⟨rfl, ho⟩
  have hO3 := Lib.hid ho
  clear ho kfx d0 d1 d2 d3 d4 d5 d6 d7 d8 d9 dl
  obtain ⟨d0, d1, d2, d3, d4, d5, d6, d7, d8, d9, dl⟩ := hcy.out w3 hO3.out
  go_wp2_with fail
  refine (kfe.out w3 hO3.out).mono ?_
  rintro e w4 ⟨b, rfl, hb, ho⟩
  have hO4 := Lib.hid (hO3.out.trans' ho)
  clear ho kfe d0 d1 d2 d3 d4 d5 d6 d7 d8 d9 dl
  have hb' := Lib.hid hb
  clear hb
  cases b with
  | false =>
    have hf := Lib.hid (hfin.out w4 hO4.out)
    go_wp2
    exact hf.out
  | true =>
    have hok := hb'.out rfl
    by_cases hn30 : (30 : Int) < (n : Int)
    · have hf := Lib.hid (hfin.out w4 hO4.out)
      clear hok
      go_wp2
      exact hf.out
    have kp := Lib.hid (kpl.out hok (by omega))
    have kr := Lib.hid (krp.out hok (by omega))
    have kw := Lib.hid (kwi.out hok (by omega))
    have kl := Lib.hid (kle.out hok)
    have kt := Lib.hid (ktr.out hok)
    have ht1000 := hn1.out hok
    clear hok hb' kpl krp kwi kle ktr hn1
    obtain ⟨d0, d1, d2, d3, d4, d5, d6, d7, d8, d9, dl⟩ := hcy.out w4 hO4.out
    have hm := hmk.out ht1000 w4
    have hWs := hW0.out ht1000 w4
    obtain ⟨G, hG⟩ : ∃ G, G = w4.heap.size := ⟨_, rfl⟩
    obtain ⟨w5, hw5⟩ : ∃ W, W = w4.alloc (.cells (List.replicate tn (.int .i64 0)).toArray 3) := ⟨_, rfl⟩
    rw [← hw5, ← hG] at hm hWs
    have hO5 := Lib.hid (show Only (fun _ => False) w4 w5 from by rw [hw5]; exact (Only.refl _ _).alloc _)
    have hWs' := Lib.hid hWs
    have hOG := Lib.hid (fun W (ho : Only (fun k => k = G) w5 W) => show Only (fun _ => False) W2 W from (hO4.out.trans' hO5.out).trans ho (fun x hx e => by have := hO4.out.size; omega))
    clear hWs hw5 hmk hW0 hG
    go_upto_region 6 with fail
    clear d0 d1 d2 d3 d4 d5 d6 d7 d8 d9 dl hm
    obtain ⟨d0, d1, d2, d3, d4, d5, d6, d7, d8, d9, dl⟩ := hcy.out w5 (hO4.out.trans' hO5.out)
    go_wp2
    clear d0 d1 d2 d3 d4 d5 d6 d7 d8 d9 dl
    go_loopw [6, 7, 32] (fun _ _ i wr => ∃ k : Nat, i = .int .i64 k ∧ k ≤ tn ∧ Hid (Win wr 3 1 (.slice (some ⟨G, 0, none⟩) tn tn) (some G) tn (icells (mixL TH tn k))) ∧ Hid (Only (fun b => b = G) w5 wr)) (fun _ _ i _ => tn - (intOf i).toNat)
    case atStart => exact ⟨0, rfl, Nat.zero_le _, hWs', Lib.hid (Only.refl _ _)⟩
    case round =>
      obtain ⟨k, rfl, hk, hW, hO⟩ := hrel
      obtain ⟨ws, hws⟩ : ∃ ws : World, ws = wr := ⟨_, rfl⟩
      subst hws
      by_cases hkn : k < tn
      · have hkn' : (k : Int) < (tn : Int) := by omega
        obtain ⟨tb, toff, t, rfl, htb, hCe, -, hpe⟩ := hta.out ws (hOG.out ws hO.out) k hkn
        obtain ⟨f0, f1, f2, f3, f4, f5, f6⟩ := hCe
        obtain ⟨tp, tth, tpe, tde, tfr, tfl, ⟨oA, on, oc⟩⟩ := t
        dsimp only at f0 f1 f2 f3 f4 f5 f6 hpe
        obtain ⟨w6, hw6⟩ : ∃ w6, w6 = ws.alloc (.cells #[.int .i64 tp, .int .i64 tth, .int .i64 tpe, .int .i64 tde, .int .i64 tfr, .int .i64 tfl, .slice oA on oc] 49) := ⟨_, rfl⟩
        have hp6 : Only (fun _ => False) ws w6 := by rw [hw6]; exact (Only.refl _ _).alloc _
        obtain ⟨Y, hY⟩ : ∃ Y, Y = ws.heap.size := ⟨_, rfl⟩
        have hY6 : w6.heap[Y]? = some (.cells ([.int .i64 tp, .int .i64 tth, .int .i64 tpe, .int .i64 tde, .int .i64 tfr, .int .i64 tfl, .slice oA on oc]).toArray 49 (0, 0)) := by rw [hw6]; exact heap_new_at _ _ hY.symm
        have hW6 := hW.out.kept hp6 (fun _ _ h => h)
        obtain ⟨g1, o1, c1, e1, e2, -, -, hGl, hGc, hGf⟩ := hW6.at_ (by omega)
        cases e1
        injection e2 with e3 _ e4
        cases e3
        subst e4
        obtain ⟨u0, hu0⟩ : ∃ u, (icells (mixL TH tn k))[k]? = some u := ⟨_, List.getElem?_eq_getElem (by unfold icells; rw [List.length_map, mixL_len]; omega)⟩
        have hGk := hGc k u0 hu0
        rw [Nat.zero_add] at hGk
        have hset := win_setCell (k := k) hW6 (by omega) (by omega) (.int .i64 (TH k))
        rw [Nat.zero_add, show (icells (mixL TH tn k)).set k (.int .i64 (TH k)) = icells (mixL TH tn (k + 1)) from by unfold icells; rw [← List.map_set, mixL_set hkn]] at hset
        have hO7 := Lib.hid (hO.out.trans' ((hp6.mono (T := fun b => b = G) (fun _ _ h => h.elim)).trans' ((Only.refl (fun b => b = G) w6).setCell (p := ⟨G, k, none⟩) (fun _ => rfl) (.int .i64 (TH k)))))
        have hset' := Lib.hid hset
        have hfz := hGf k
        rw [hpe] at hset' hO7
        have hw6' := Lib.hid hw6
        have hY' := Lib.hid hY
        clear hset hW6 hp6 hw6 hY hpe hGf hGc hu0
        go_upto_region 9 with fail
        rw [← hw6'.out, ← hY'.out]
        clear f0 f1 f2 f3 f4 f5 f6 htb
        have y0 := row_cell hY6 (i := 1) rfl
        have yl := row_lt hY6
        go_wp2
        go_roundw
        case rel => exact ⟨k + 1, by go_num, by omega, hset', hO7⟩
        case measure => simp [intOf]; omega
      · obtain rfl : k = tn := by omega
        have hkn' : ¬ (k : Int) < (k : Int) := by omega
        have hA6 := Lib.hid (fun W (h : Only (fun _ => False) ws W) => hW.out.kept h (fun _ _ h => h))
        have hO6 := Lib.hid (hOG.out ws hO.out)
        clear hW hO hOG hWs' hO5
        obtain ⟨d0, d1, d2, d3, d4, d5, d6, d7, d8, d9, dl⟩ := hcy.out ws hO6.out
        go_wp2_with fail
        refine (kw.out ws hO6.out).mono ?_
        rintro e w7 ⟨x, E, rfl, ho, hE1, hE2⟩
        have hO7 := Lib.hid ho
        have hE1' := Lib.hid hE1
        have hE2' := Lib.hid hE2
        clear ho hE1 hE2 kw d0 d1 d2 d3 d4 d5 d6 d7 d8 d9 dl
        go_upto_region 12 with fail
        obtain ⟨X, hX⟩ : ∃ X, X = w7.heap.size := ⟨_, rfl⟩
        obtain ⟨w8, hw8⟩ : ∃ W, W = w7.alloc (.cells #[.int .i64 x.s, .int .i64 x.wy, .int .i64 x.h, .int .i64 x.mi, .slice x.mb.A x.mb.n x.mb.cap, .int .i64 x.g, .slice x.cn.A x.cn.n x.cn.cap, .slice x.ce.A x.ce.n x.ce.cap, .slice x.ta.A x.ta.n x.ta.cap, .slice x.li.A x.li.n x.li.cap] 27) := ⟨_, rfl⟩
        rw [← hw8, ← hX]
        have hX8 := Lib.hid (show w8.heap[X]? = some (.cells ([.int .i64 x.s, .int .i64 x.wy, .int .i64 x.h, .int .i64 x.mi, .slice x.mb.A x.mb.n x.mb.cap, .int .i64 x.g, .slice x.cn.A x.cn.n x.cn.cap, .slice x.ce.A x.ce.n x.ce.cap, .slice x.ta.A x.ta.n x.ta.cap, .slice x.li.A x.li.n x.li.cap] : List Value).toArray 27 (0, 0)) from by rw [hw8, hX]; exact heap_new_at _ _ rfl)
        have hO78 := Lib.hid (show Only (fun _ => False) w7 w8 from by rw [hw8]; exact (Only.refl _ _).alloc _)
        clear hw8 hX
        have hO8 := Lib.hid (hO7.out.trans' hO78.out)
        obtain ⟨d0, d1, d2, d3, d4, d5, d6, d7, d8, d9, dl⟩ := hcy.out w8 (hO6.out.trans' hO8.out)
        have p0 := wd_cell d0
        have p1 := wd_cell d1
        have p2 := wd_cell d2
        have p3 := wd_cell d3
        have p4 := wd_cell d4
        have p5 := wd_cell d5
        have p6 := wd_cell d6
        have p7 := wd_cell d7
        have p8 := wd_cell d8
        have p9 := wd_cell d9
        have hex := wd_ex w8
        have r1 := Lib.hid (fun (y : Wd w8) => Calls.wd (x := y) (kp.out y.W ((hO6.out.trans' hO8.out).trans' y.ok)))
        have r2 := Lib.hid (fun (y : Wd w8) => Calls.wd (x := y) (kr.out y.W ((hO6.out.trans' hO8.out).trans' y.ok)))
        refine wp_region_wd (by kernel_rfl) (by kernel_rfl) ?_
        repeat (go_big_quiet_step (first | (go_at_call 27; with_reducible exact r1.out _) | (go_at_call 28; with_reducible exact r2.out _)))
        refine wpQuiet_nil ?_
        rintro _ ⟨v, rfl⟩
        have hO9 := Lib.hid (hO8.out.trans' v.ok)
        have hO89 := Lib.hid v.ok
        obtain ⟨w9, hw9⟩ : ∃ w9, w9 = v.W := ⟨_, rfl⟩
        rw [← hw9] at hO9 hO89 ⊢
        clear hw9 hex r1 r2 kp kr p0 p1 p2 p3 p4 p5 p6 p7 p8 p9 d0 d1 d2 d3 d4 d5 d6 d7 d8 d9 dl
        have hPP1 : (PT == PT) = true := by simp
        obtain ⟨d0, d1, d2, d3, d4, d5, d6, d7, d8, d9, dl⟩ := hcy.out w9 (hO6.out.trans' hO9.out)
        go_wp2_with fail
        refine (kl.out w9 (hO6.out.trans' hO9.out)).mono ?_
        rintro e w10 ⟨pL, cL, hL, rfl, hWL, -, ho⟩
        have hO10 := Lib.hid (hO9.out.trans' ho)
        have hO810 := Lib.hid (hO89.out.trans' ho)
        have hAL := Lib.hid (fun W (h : Only (fun _ => False) w10 W) => hWL.kept h (fun _ _ h => h))
        clear ho hWL kl d0 d1 d2 d3 d4 d5 d6 d7 d8 d9 dl
        obtain ⟨d0, d1, d2, d3, d4, d5, d6, d7, d8, d9, dl⟩ := hcy.out w10 (hO6.out.trans' hO10.out)
        go_wp2
        clear d0 d1 d2 d3 d4 d5 d6 d7 d8 d9 dl
        go_loopw [12, 13, 61] (fun _ _ i wr => ∃ j : Nat, i = .int .i64 j ∧ j ≤ k ∧ Hid (Only (fun _ => False) w10 wr)) (fun _ _ i _ => k - (intOf i).toNat)
        case atStart => exact ⟨0, rfl, Nat.zero_le _, Lib.hid (Only.refl _ _)⟩
        case round =>
          obtain ⟨j, rfl, hj, hO⟩ := hrel
          obtain ⟨wt, hwt⟩ : ∃ wt : World, wt = wr := ⟨_, rfl⟩
          subst hwt
          have hOt := Lib.hid (hO6.out.trans' (hO10.out.trans' hO.out))
          by_cases hjk : j < k
          · have hjk' : (j : Int) < (k : Int) := by omega
            have hjk2 : ¬ (k : Int) ≤ (j : Int) := by omega
            obtain ⟨tb, toff, t, rfl, htb, hCe, hpp, hpe⟩ := hta.out wt hOt.out j hjk
            obtain ⟨g1, o1, e1, hl1, hc1⟩ := thI_win (hA6.out wt (hO10.out.trans' hO.out)) hjk
            obtain ⟨g2, o2, e2, hl2, hc2⟩ := thI_win (hAL.out wt hO.out) hjk
            cases e1
            subst e2
            rw [Nat.zero_add, hpe] at hc1
            rw [hpp] at hc2
            obtain ⟨f0, f1, f2, f3, f4, f5, f6⟩ := hCe
            obtain ⟨tp, tth, tpe, tde, tfr, tfl, ⟨oA, on, oc⟩⟩ := t
            dsimp only at f0 f1 f2 f3 f4 f5 f6 hc1 hc2
            obtain ⟨Y, hY⟩ : ∃ Y, Y = wt.heap.size := ⟨_, rfl⟩
            obtain ⟨w16, hw16⟩ : ∃ w6, w6 = wt.alloc (.cells #[.int .i64 tp, .int .i64 tth, .int .i64 tpe, .int .i64 tde, .int .i64 tfr, .int .i64 tfl, .slice oA on oc] 49) := ⟨_, rfl⟩
            have hp6 : Only (fun _ => False) wt w16 := by rw [hw16]; exact (Only.refl _ _).alloc _
            have hY6 : w16.heap[Y]? = some (.cells ([.int .i64 tp, .int .i64 tth, .int .i64 tpe, .int .i64 tde, .int .i64 tfr, .int .i64 tfl, .slice oA on oc]).toArray 49 (0, 0)) := by rw [hw16]; exact heap_new_at _ _ hY.symm
            have hw6' := Lib.hid hw16
            have hY' := Lib.hid hY
            have hO17 := Lib.hid (hO.out.trans' hp6)
            clear hw16 hY hpp hpe
            go_upto_region 17 with fail
            rw [← hw6'.out, ← hY'.out]
            replace hc1 := hp6.cell hc1 (fun h => h)
            replace hc2 := hp6.cell hc2 (fun h => h)
            replace hl1 := Nat.lt_of_lt_of_le hl1 hp6.size
            replace hl2 := Nat.lt_of_lt_of_le hl2 hp6.size
            clear f0 f1 f2 f3 f4 f5 f6 htb hp6
            have y0 := row_cell hY6 (i := 0) rfl
            have y1 := row_cell hY6 (i := 1) rfl
            have yl := row_lt hY6
            have n1 : (tth != tth) = false := by simp
            have n2 : (tp != tp) = false := by simp
            have n3 : decide ((k : Int) ≤ (j : Int)) = false := by simp; omega
            go_quiet (fail)
            go_wp2
            go_roundw
            case rel => exact ⟨j + 1, by go_num, by omega, Lib.hid (hO17.out.drewN _)⟩
            case measure => simp [intOf]; omega
          · obtain rfl : j = k := by omega
            have hjk' : ¬ (j : Int) < (j : Int) := by omega
            have hX9 := Lib.hid ((hO810.out.trans' hO.out).heap hX8.out (fun h => h))
            have hO79 := Lib.hid (hO78.out.trans' (hO810.out.trans' hO.out))
            clear hA6 hAL hta hX8 hO810 hO89 hO78
            obtain ⟨d0, d1, d2, d3, d4, d5, d6, d7, d8, d9, dl⟩ := hcy.out wt hOt.out
            by_cases hnt : n = j
            · have hnn : ((n : Int) != (j : Int)) = false := by simp; omega
              have hE := Lib.hid (hE2'.out hnt)
              have x8 := row_cell hX9.out (i := 8) rfl
              have xl := row_lt hX9.out
              obtain ⟨dn, hdn⟩ : ∃ m, m = x.ta.n := ⟨_, rfl⟩
              rw [← hdn] at hE x8 ⊢
              have hdn' := Lib.hid hdn
              have hdj := Lib.hid (show dn ≤ j from by rcases hE.out with h | h <;> omega)
              clear hE1' hE2' hdn
              go_wp2
              clear d0 d1 d2 d3 d4 d5 d6 d7 d8 d9 dl
              go_loopw [14, 103] (fun _ i wr => ∃ m : Nat, i = .int .i64 m ∧ m ≤ dn ∧ Hid (Only (fun _ => False) wt wr)) (fun _ i _ => dn - (intOf i).toNat)
              case atStart => exact ⟨0, rfl, Nat.zero_le _, Lib.hid (Only.refl _ _)⟩
              case round =>
                obtain ⟨m, rfl, hm, hOm⟩ := hrel
                obtain ⟨wu, hwu⟩ : ∃ wu : World, wu = wr := ⟨_, rfl⟩
                subst hwu
                have hdj2 := hdj.out
                by_cases hmd : m < dn
                · have hmd' : (m : Int) < (dn : Int) := by omega
                  have hmj' : (m : Int) < (j : Int) := by omega
                  obtain ⟨b, off, rfl, hb, hc⟩ := hTa.out wu (hOt.out.trans' hOm.out) m (by omega)
                  obtain ⟨g3, o3, hA3, hl3, hc3⟩ : ∃ g off, x.ta.A = some ⟨g, off, none⟩ ∧ g < wu.heap.size ∧ wu.cell? ⟨g, off + m * 7 + 1, none⟩ = some (.int .i64 (T.getD m 0)) := by
                    rcases hE.out with h | ⟨h, hq⟩
                    · omega
                    · exact hq wu (hO79.out.trans' hOm.out) m (by omega)
                  have hx9 := hOm.out.heap hX9.out (fun h => h)
                  have z8 := row_cell hx9 (i := 8) rfl
                  have zl := row_lt hx9
                  rw [hA3, ← hdn'.out] at z8
                  obtain ⟨y, hy⟩ : ∃ y, y = T.getD m 0 := ⟨_, rfl⟩
                  rw [← hy] at hc hc3
                  have n1 : (y != y) = false := by simp
                  clear hy hA3 x8 xl hx9 hdj2
                  go_upto_region 25 with fail
                  go_quiet (fail)
                  go_wp2
                  go_roundw
                  case rel => exact ⟨m + 1, by go_num, by omega, Lib.hid (hOm.out.drewN _)⟩
                  case measure => simp [intOf]; omega
                · obtain rfl : m = dn := by omega
                  have hmd' : ¬ (m : Int) < (m : Int) := by omega
                  have hOu := Lib.hid (hOt.out.trans' hOm.out)
                  clear x8 xl hdj2 hnn
                  obtain ⟨d0, d1, d2, d3, d4, d5, d6, d7, d8, d9, dl⟩ := hcy.out wu hOu.out
                  have p0 := wd_cell d0
                  have p1 := wd_cell d1
                  have p2 := wd_cell d2
                  have p3 := wd_cell d3
                  have p4 := wd_cell d4
                  have p5 := wd_cell d5
                  have p6 := wd_cell d6
                  have p7 := wd_cell d7
                  have p8 := wd_cell d8
                  have p9 := wd_cell d9
                  have hex := wd_ex wu
                  have r3 := Lib.hid (fun (y : Wd wu) => Calls.wd (x := y) (kt.out y.W (hOu.out.trans' y.ok)))
                  have n4 : ((j : Int) == (j : Int)) = true := by simp
                  have hbb : 0 ≤ (j : Int) * ((j : Int) + 1) ∧ (j : Int) * ((j : Int) + 1) ≤ 1001000 := by
                    have h1 : j * (j + 1) ≤ 1000 * 1001 := Nat.mul_le_mul ht1000 (by omega)
                    have h2 : (j : Int) * ((j : Int) + 1) = ((j * (j + 1) : Nat) : Int) := by simp
                    omega
                  have hm1 : IntKind.i64.wrap ((j : Int) + 1) = (j : Int) + 1 := IntWalk.i64_in _ (by omega)
                  have hm2 : IntKind.i64.wrap ((j : Int) * ((j : Int) + 1)) = (j : Int) * ((j : Int) + 1) := IntWalk.i64_in _ (by omega)
                  have hm3 : IntKind.i64.wrap (1 + (j : Int) * ((j : Int) + 1)) = 1 + (j : Int) * ((j : Int) + 1) := IntWalk.i64_in _ (by omega)
                  have n5 : (1 + (j : Int) * ((j : Int) + 1) == 1 + (j : Int) * ((j : Int) + 1)) = true := by simp
                  clear hbb
                  go_upto_region 28 with fail
                  refine wp_region_wd (by kernel_rfl) (by kernel_rfl) ?_
                  repeat (go_big_quiet_step (first | (go_at_call 30; with_reducible exact r3.out _)))
                  refine wpQuiet_nil ?_
                  rintro _ ⟨v, rfl⟩
                  have hf := Lib.hid (hfin.out v.W (hOu.out.trans' v.ok))
                  clear hex r3 p0 p1 p2 p3 p4 p5 p6 p7 p8 p9 d0 d1 d2 d3 d4 d5 d6 d7 d8 d9 dl
                  go_wp2
                  exact hf.out
            · have hnn : ((n : Int) != (j : Int)) = true := by simp; omega
              obtain rfl := hE1'.out hnt
              have hf := Lib.hid (hfin.out wt hOt.out)
              clear hnt
              go_wp2
              exact hf.out
theorem pas29_law (c : ConfV) (a : Option Addr) (len cap : Nat) (z : Nat → Int) (W : World) (hw : Words W) (g0 : ∃ (dd : ConfL) (pl : Tks), ConfIn W c dd pl) (g1 : IntRow .i64 W a len z ∧ len ≤ cap ∧ cap ≤ maxLen) :
    Calls Tryz.prog 4 #[c.val, .slice a len cap] W fun e w' => e = .returned (.bool true) ∧ Below W.heap.size W w' := by
  obtain ⟨dd, pl, hC⟩ := g0
  exact (pas29_any hw hC (ints_row g1.1 g1.2.1)).mono fun e w' ⟨he, hO⟩ => ⟨he, hO.below (Nat.le_refl _) (fun _ h => h.elim)⟩
end Twn
end Go.Proofs.YtlbinlhaejhobaaGreatDoor
