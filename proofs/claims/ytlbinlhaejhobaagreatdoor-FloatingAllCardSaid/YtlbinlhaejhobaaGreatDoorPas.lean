/- assign: Passes, Least, Tries. Written by mkpas.py. -/
import Derived.Test.YtlbinlhaejhobaaGreatDoorWit
namespace Go.Proofs.YtlbinlhaejhobaaGreatDoor
namespace Twn
open Go Go.RowKit Krn Asn Pre Adm

def pasB (c : ConfV) (d : ConfL) (pl : Tks) (T : List Int) : Bool := decide (T.length = c.ta.n) && admB c d (chg (thL T) pl)
set_option maxRecDepth 100000 in
set_option maxHeartbeats 8000000 in
theorem passes_any {w : World} {c : ConfV} {d : ConfL} {pl : Tks} (h0 : Cf0 w c d pl) {A : Option Addr} {n cap : Nat} {T : List Int} (hT0 : IntsAt w ⟨A, n, cap⟩ T) (hn9 : n ≤ 1000000) :
    Calls Tryz.prog 27 #[c.val, .slice A n cap] w (GrowB (pasB c d pl T) w) := by
  obtain ⟨q, hq⟩ : ∃ q, q = w.heap.size := ⟨_, rfl⟩
  obtain ⟨W2, hW2⟩ : ∃ W2, W2 = w.alloc (.cells c.cells.toArray 27) := ⟨_, rfl⟩
  have hO2 : Only (fun _ => False) w W2 := by rw [hW2]; exact (Only.refl _ w).alloc _
  have b0 : W2.heap[q]? = some (.cells c.cells.toArray 27 (0, 0)) := by rw [hW2]; exact heap_new_at _ _ hq.symm
  have hs2 : W2.heap.size = q + 1 := by rw [hW2, hq]; simp
  have hq' := Lib.hid hq
  have hcy := Lib.hid (fun W (ho : Only (fun _ => False) W2 W) => cyv_of (ho.heap b0 (fun h => h)))
  obtain ⟨cv, hcv⟩ : ∃ cv, cv = c.val := ⟨_, rfl⟩
  have kwi := Lib.hid (show Calls Tryz.prog 26 #[cv, .slice A n cap] W2 (WithEnd c d pl T W2) from by rw [hcv]; exact with_any (h0.new hO2) (hT0.new hO2) hn9)
  obtain ⟨AV, hAV⟩ : ∃ b, b = admB c d (chg (thL T) pl) := ⟨_, rfl⟩
  have kad := Lib.hid (fun W c' us tb tp (h : CfAt W2 (thL T) c c' d pl us tb tp W) W3 (ho : Only (fun _ => False) W W3) => show Calls Tryz.prog 15 #[c'.val] W3 (GrowB AV W3) from by
    have h' := h.new ho
    rw [hAV, ← h'.admB]
    exact admitted_any ((h0.new hO2).wo.new h'.tw.only) (h'.conf (h0.new hO2).C) (h'.confAt (h0.new hO2).C (h0.new hO2).A))
  obtain ⟨Z, hZ⟩ : ∃ Z, Z = GrowB (pasB c d pl T) w := ⟨_, rfl⟩
  rw [← hZ]
  have hno := Lib.hid (fun W (ho : Only (fun _ => False) W2 W) (hb : T.length = c.ta.n → confZ c d (chg (thL T) pl) ≠ 0) => show Z (.returned (.bool false)) W from by
    rw [hZ]
    refine ⟨?_, hO2.trans' ho⟩
    unfold pasB admB
    by_cases h : T.length = c.ta.n
    · simp [hb h]
    · simp [h])
  have hyes := Lib.hid (fun W (ho : Only (fun _ => False) W2 W) (hb : T.length = c.ta.n) => show Z (.returned (.bool AV)) W from by
    rw [hZ]
    refine ⟨?_, hO2.trans' ho⟩
    unfold pasB
    rw [← hAV, decide_eq_true hb, Bool.true_and])
  obtain ⟨WE, hWE⟩ : ∃ WE, WE = WithEnd c d pl T W2 := ⟨_, rfl⟩
  rw [← hWE] at kwi
  have hcase := Lib.hid (fun e W (h : WE e W) => show Only (fun _ => False) W2 W ∧ ((∃ z : Int, z ≠ 0 ∧ (T.length = c.ta.n → confZ c d (chg (thL T) pl) ≠ 0) ∧ e = .returned (.tuple #[.agg #[.int .i64 0, .int .i64 0, .int .i64 0, .int .i64 0, .slice none 0 0, .int .i64 0, .slice none 0 0, .slice none 0 0, .slice none 0 0, .slice none 0 0], .int .i64 z])) ∨ (T.length = c.ta.n ∧ ∃ c' us tb tp, e = .returned (.tuple #[.agg #[.int .i64 c'.s, .int .i64 c'.wy, .int .i64 c'.h, .int .i64 c'.mi, .slice c'.mb.A c'.mb.n c'.mb.cap, .int .i64 c'.g, .slice c'.cn.A c'.cn.n c'.cn.cap, .slice c'.ce.A c'.ce.n c'.ce.cap, .slice c'.ta.A c'.ta.n c'.ta.cap, .slice c'.li.A c'.li.n c'.li.cap], .int .i64 0]) ∧ CfAt W2 (thL T) c c' d pl us tb tp W)) from by
    rw [hWE] at h
    obtain ⟨g1, g2, g3, g4⟩ := h
    refine ⟨g1, ?_⟩
    by_cases hl : T.length = c.ta.n
    · by_cases hz : confZ c d (chg (thL T) pl) = 0
      · obtain ⟨c', us, tb, tp, e1, e2⟩ := g4 hl hz
        exact .inr ⟨hl, c', us, tb, tp, e1, e2⟩
      · exact .inl ⟨_, hz, fun _ => hz, g3 hl hz⟩
    · exact .inl ⟨1, by omega, fun h => absurd h hl, g2 hl⟩)
  rw [← hcv]
  unfold ConfV.val at hcv
  subst hcv
  unfold CYv at hcy
  unfold ConfV.cells at hW2
  have hW2' := Lib.hid hW2
  have hs2' := Lib.hid hs2
  clear h0 hT0 hq hO2 b0 hW2 hs2 hAV hZ hWE
  obtain ⟨c0, wy, h, mi, ⟨mA, mn, mc⟩, g, ⟨cA, cn, cc⟩, ⟨eA, en, ec⟩, ⟨tA, tn, tc⟩, ⟨lA, ln, lc⟩⟩ := c
  dsimp only at *
  obtain ⟨d0, d1, d2, d3, d4, d5, d6, d7, d8, d9, dl⟩ := hcy.out W2 (Only.refl _ _)
  go_enter Tryz.func27, Tryz.ntmps27
  go_upto_region 1 with fail
  rw [← hq'.out]
  rw [← hW2'.out]
  go_wp2_with fail
  refine kwi.out.mono ?_
  intro e w3 hE
  obtain ⟨ho, hE2⟩ := hcase.out _ _ hE
  have hO3 := Lib.hid ho
  clear ho hE d0 d1 d2 d3 d4 d5 d6 d7 d8 d9 dl
  rcases hE2 with ⟨z, hz, hb, rfl⟩ | ⟨hl, c', us, tb, tp, rfl, hF⟩
  · have hf := Lib.hid (fun W ho => hno.out W ho hb)
    have hz2 : (z == 0) = false := by simpa using hz
    clear hz hb
    go_wp2
    exact hf.out _ (hO3.out.alloc _)
  · have hF' := Lib.hid hF
    clear hF
    go_upto_region 2 with fail
    obtain ⟨X, hX⟩ : ∃ X, X = w3.heap.size := ⟨_, rfl⟩
    obtain ⟨w4, hw4⟩ : ∃ W, W = w3.alloc (.cells #[.int .i64 c'.s, .int .i64 c'.wy, .int .i64 c'.h, .int .i64 c'.mi, .slice c'.mb.A c'.mb.n c'.mb.cap, .int .i64 c'.g, .slice c'.cn.A c'.cn.n c'.cn.cap, .slice c'.ce.A c'.ce.n c'.ce.cap, .slice c'.ta.A c'.ta.n c'.ta.cap, .slice c'.li.A c'.li.n c'.li.cap] 27) := ⟨_, rfl⟩
    rw [← hw4, ← hX]
    have hX4 : w4.heap[X]? = some (.cells ([.int .i64 c'.s, .int .i64 c'.wy, .int .i64 c'.h, .int .i64 c'.mi, .slice c'.mb.A c'.mb.n c'.mb.cap, .int .i64 c'.g, .slice c'.cn.A c'.cn.n c'.cn.cap, .slice c'.ce.A c'.ce.n c'.ce.cap, .slice c'.ta.A c'.ta.n c'.ta.cap, .slice c'.li.A c'.li.n c'.li.cap] : List Value).toArray 27 (0, 0)) := by rw [hw4, hX]; exact heap_new_at _ _ rfl
    have hO4 := Lib.hid (show Only (fun _ => False) w3 w4 from by rw [hw4]; exact (Only.refl _ _).alloc _)
    clear hw4 hX
    have x0 := row_cell hX4 (i := 0) rfl
    have x1 := row_cell hX4 (i := 1) rfl
    have x2 := row_cell hX4 (i := 2) rfl
    have x3 := row_cell hX4 (i := 3) rfl
    have x4 := row_cell hX4 (i := 4) rfl
    have x5 := row_cell hX4 (i := 5) rfl
    have x6 := row_cell hX4 (i := 6) rfl
    have x7 := row_cell hX4 (i := 7) rfl
    have x8 := row_cell hX4 (i := 8) rfl
    have x9 := row_cell hX4 (i := 9) rfl
    have xl := row_lt hX4
    go_wp2_with fail
    refine (kad.out _ _ _ _ _ hF'.out w4 hO4.out).mono ?_
    rintro e w5 ⟨rfl, ho⟩
    have hf := Lib.hid (hyes.out w5 ((hO3.out.trans' hO4.out).trans' ho) hl)
    clear ho x0 x1 x2 x3 x4 x5 x6 x7 x8 x9 xl hX4
    go_wp2
    exact hf.out

/-- The priorities of the first k tasks, behind them zeros. -/
def mixL (P : Nat → Int) (n k : Nat) : List Int := (List.range n).map (fun j => if j < k then P j else 0)
theorem mixL_len (P : Nat → Int) (n k : Nat) : (mixL P n k).length = n := by unfold mixL; simp
theorem mixL_zero (P : Nat → Int) (n : Nat) : mixL P n 0 = List.replicate n 0 := by
  unfold mixL
  refine List.ext_getElem? (fun i => ?_)
  rw [List.getElem?_map, List.getElem?_replicate]
  by_cases hi : i < n
  · rw [List.getElem?_range hi, if_pos hi]
    rfl
  · rw [List.getElem?_eq_none (l := List.range n) (by simp; omega), if_neg hi]
    rfl
theorem mixL_set {P : Nat → Int} {n k : Nat} (hk : k < n) : (mixL P n k).set k (P k) = mixL P n (k + 1) := by
  refine List.ext_getElem? (fun i => ?_)
  rw [List.getElem?_set]
  unfold mixL
  rw [List.getElem?_map, List.getElem?_map, List.length_map, List.length_range]
  by_cases hi : i < n
  · rw [List.getElem?_range hi]
    by_cases e : k = i
    · subst e
      rw [if_pos rfl, if_pos hk]
      show _ = some (if k < k + 1 then P k else 0)
      rw [if_pos (by omega)]
    · rw [if_neg e]
      show some (if i < k then P i else 0) = some (if i < k + 1 then P i else 0)
      by_cases h : i < k
      · rw [if_pos h, if_pos (by omega)]
      · rw [if_neg h, if_neg (by omega)]
  · rw [List.getElem?_eq_none (l := List.range n) (by simp; omega)]
    by_cases e : k = i
    · omega
    · rw [if_neg e]; rfl
theorem mixL_all (pl : Tks) (n : Nat) (h : pl.length = n) : mixL (prio pl.ts) n n = pl.ts.map (·.p) := by
  refine List.ext_getElem? (fun i => ?_)
  unfold mixL
  rw [List.getElem?_map, List.getElem?_map]
  by_cases hi : i < n
  · rw [List.getElem?_range hi]
    obtain ⟨⟨t, l⟩, hp⟩ : ∃ x, pl[i]? = some x := ⟨_, List.getElem?_eq_getElem (by omega)⟩
    rw [ts_some hp]
    show some (if i < n then prio pl.ts i else 0) = some t.p
    rw [if_pos hi, prio_at' hp]
  · rw [List.getElem?_eq_none (l := List.range n) (by simp; omega), List.getElem?_eq_none (l := pl.ts) (by unfold Tks.ts; simp; omega)]
    rfl
def LeastEnd (pl : Tks) (n : Nat) (w : World) (e : Ending) (w' : World) : Prop :=
  ∃ A cap h, e = .returned (.slice A n cap) ∧ Win w' 3 1 (.slice A n cap) h n (icells (pl.ts.map (·.p))) ∧ (∀ g, h = some g → w.heap.size ≤ g) ∧ Only (fun _ => False) w w'
set_option maxRecDepth 100000 in
set_option maxHeartbeats 8000000 in
theorem least_any {w : World} {c : ConfV} {d : ConfL} {pl : Tks} (h0 : Cf0 w c d pl) :
    Calls Tryz.prog 29 #[c.val] w (LeastEnd pl c.ta.n w) := by
  obtain ⟨q, hq⟩ : ∃ q, q = w.heap.size := ⟨_, rfl⟩
  obtain ⟨W2, hW2⟩ : ∃ W2, W2 = w.alloc (.cells c.cells.toArray 27) := ⟨_, rfl⟩
  have hO2 : Only (fun _ => False) w W2 := by rw [hW2]; exact (Only.refl _ w).alloc _
  have b0 : W2.heap[q]? = some (.cells c.cells.toArray 27 (0, 0)) := by rw [hW2]; exact heap_new_at _ _ hq.symm
  have hs2 : W2.heap.size = q + 1 := by rw [hW2, hq]; simp
  have hq' := Lib.hid hq
  have hcy := Lib.hid (fun W (ho : Only (fun _ => False) W2 W) => cyv_of (ho.heap b0 (fun h => h)))
  obtain ⟨cv, hcv⟩ : ∃ cv, cv = c.val := ⟨_, rfl⟩
  have hlen := h0.len
  have hn9 := h0.n
  have hta := Lib.hid (fun W (ho : Only (fun _ => False) W2 W) x (hx : x < c.ta.n) => show ∃ b off t, c.ta.A = some ⟨b, off, none⟩ ∧ b < W.heap.size ∧ TaskCells W b (off + x * 7) t ∧ prio pl.ts x = t.p from by
    have hT := (h0.C.new (hO2.trans' ho)).t
    obtain ⟨t, ht⟩ : ∃ t, pl.ts[x]? = some t := ⟨_, List.getElem?_eq_getElem (by rw [hT.len]; exact hx)⟩
    obtain ⟨b, off, hA, hb, hCe⟩ := hT.at_ x t ht
    exact ⟨b, off, t, hA, hb, hCe, prio_at ht⟩)
  have hmk := run_make_list (P := Tryz.prog) W2 24 3 (.int .i64 0) 8 rfl infoI rfl c.ta.n (by omega) (by omega)
  obtain ⟨W3, hW3⟩ : ∃ W, W = W2.alloc (.cells (List.replicate c.ta.n (.int .i64 0)).toArray 3) := ⟨_, rfl⟩
  have hO3 := Lib.hid (show Only (fun _ => False) W2 W3 from by rw [hW3]; exact (Only.refl _ _).alloc _)
  have hWs := Lib.hid (show Win W3 3 1 (.slice (some ⟨W2.heap.size, 0, none⟩) c.ta.n c.ta.n) (some W2.heap.size) c.ta.n (icells (mixL (prio pl.ts) c.ta.n 0)) from by
    rw [mixL_zero, show icells (List.replicate c.ta.n 0) = List.replicate c.ta.n (.int .i64 0) from by unfold icells; rw [List.map_replicate]]
    exact Win.of_row (by rw [hW3]; exact heap_new_at _ _ rfl) (by simp) (by unfold maxLen; omega))
  rw [← hW3] at hmk
  obtain ⟨Z, hZ⟩ : ∃ Z, Z = LeastEnd pl c.ta.n w := ⟨_, rfl⟩
  rw [← hZ]
  obtain ⟨G, hG⟩ : ∃ G, G = W2.heap.size := ⟨_, rfl⟩
  rw [← hG] at hmk hWs
  have hall := mixL_all pl c.ta.n hlen
  have hfin := Lib.hid (fun W (h : Win W 3 1 (.slice (some ⟨G, 0, none⟩) c.ta.n c.ta.n) (some G) c.ta.n (icells (mixL (prio pl.ts) c.ta.n c.ta.n))) (ho : Only (fun k => k = G) W3 W) => show Z (.returned (.slice (some ⟨G, 0, none⟩) c.ta.n c.ta.n)) W from by
    rw [hZ]
    rw [hall] at h
    exact ⟨_, _, _, rfl, h, fun g hg => by cases hg; rw [hG, hs2]; omega, hO2.trans' (hO3.out.trans ho (fun x hx e => by omega))⟩)
  have hGs := Lib.hid (show G < W3.heap.size ∧ q < G from by rw [hW3, hG, hs2]; simp [hs2])
  have hO23 := Lib.hid (fun W (ho : Only (fun k => k = G) W3 W) => show Only (fun _ => False) W2 W from hO3.out.trans ho (fun x hx e => by omega))
  obtain ⟨P, hP⟩ : ∃ P, P = prio pl.ts := ⟨_, rfl⟩
  rw [← hP] at hta hWs hfin
  rw [← hcv]
  unfold ConfV.val at hcv
  subst hcv
  unfold CYv at hcy
  unfold ConfV.cells at hW2
  have hW2' := Lib.hid hW2
  have hs2' := Lib.hid hs2
  clear h0 hlen hq hO2 b0 hW2 hs2 hZ hW3 hG hall hP
  obtain ⟨c0, wy, h, mi, ⟨mA, mn, mc⟩, g, ⟨cA, cn, cc⟩, ⟨eA, en, ec⟩, ⟨tA, tn, tc⟩, ⟨lA, ln, lc⟩⟩ := c
  dsimp only at *
  obtain ⟨d0, d1, d2, d3, d4, d5, d6, d7, d8, d9, dl⟩ := hcy.out W2 (Only.refl _ _)
  go_enter Tryz.func29, Tryz.ntmps29
  go_upto_region 1 with fail
  rw [← hq'.out]
  rw [← hW2'.out]
  go_upto_region 2 with fail
  clear d0 d1 d2 d3 d4 d5 d6 d7 d8 d9 dl
  obtain ⟨d0, d1, d2, d3, d4, d5, d6, d7, d8, d9, dl⟩ := hcy.out W3 hO3.out
  go_wp2
  clear d0 d1 d2 d3 d4 d5 d6 d7 d8 d9 dl hmk
  go_loopw [4, 5, 13] (fun _ _ i wr => ∃ k : Nat, i = .int .i64 k ∧ k ≤ tn ∧ Hid (Win wr 3 1 (.slice (some ⟨G, 0, none⟩) tn tn) (some G) tn (icells (mixL P tn k))) ∧ Hid (Only (fun b => b = G) W3 wr)) (fun _ _ i _ => tn - (intOf i).toNat)
  case atStart => exact ⟨0, rfl, Nat.zero_le _, hWs, Lib.hid (Only.refl _ _)⟩
  case round =>
    obtain ⟨k, rfl, hk, hW, hO⟩ := hrel
    obtain ⟨ws, hws⟩ : ∃ ws : World, ws = wr := ⟨_, rfl⟩
    subst hws
    by_cases hkn : k < tn
    · have hkn' : (k : Int) < (tn : Int) := by omega
      obtain ⟨tb, toff, t, rfl, htb, hCe, hpe⟩ := hta.out ws (hO23.out ws hO.out) k hkn
      obtain ⟨f0, f1, f2, f3, f4, f5, f6⟩ := hCe
      obtain ⟨tp, tth, tpe, tde, tfr, tfl, ⟨oA, on, oc⟩⟩ := t
      dsimp only at f0 f1 f2 f3 f4 f5 f6 hpe
      obtain ⟨w6, hw6⟩ : ∃ w6, w6 = ws.alloc (.cells #[.int .i64 tp, .int .i64 tth, .int .i64 tpe, .int .i64 tde, .int .i64 tfr, .int .i64 tfl, .slice oA on oc] 49) := ⟨_, rfl⟩
      have hp6 : Only (fun _ => False) ws w6 := by rw [hw6]; exact (Only.refl _ _).alloc _
      obtain ⟨Y, hY⟩ : ∃ Y, Y = ws.heap.size := ⟨_, rfl⟩
      have hY6 : w6.heap[Y]? = some (.cells ([.int .i64 tp, .int .i64 tth, .int .i64 tpe, .int .i64 tde, .int .i64 tfr, .int .i64 tfl, .slice oA on oc]).toArray 49 (0, 0)) := by rw [hw6]; exact heap_new_at _ _ hY.symm
      have hW6 := hW.out.kept hp6 (fun _ _ h => h)
      obtain ⟨g1, o1, c1, e1, e2, -, -, hGl, hGc, hGf⟩ := hW6.at_ (by omega)
      cases e1
      injection e2 with e3 _ e4
      cases e3
      subst e4
      obtain ⟨u0, hu0⟩ : ∃ u, (icells (mixL P tn k))[k]? = some u := ⟨_, List.getElem?_eq_getElem (by unfold icells; rw [List.length_map, mixL_len]; omega)⟩
      have hGk := hGc k u0 hu0
      rw [Nat.zero_add] at hGk
      have hset := win_setCell (k := k) hW6 (by omega) (by omega) (.int .i64 (P k))
      rw [Nat.zero_add, show (icells (mixL P tn k)).set k (.int .i64 (P k)) = icells (mixL P tn (k + 1)) from by unfold icells; rw [← List.map_set, mixL_set hkn]] at hset
      have hO7 := Lib.hid (hO.out.trans' ((hp6.mono (T := fun b => b = G) (fun _ _ h => h.elim)).trans' ((Only.refl (fun b => b = G) w6).setCell (p := ⟨G, k, none⟩) (fun _ => rfl) (.int .i64 (P k)))))
      have hset' := Lib.hid hset
      have hfz := hGf k
      rw [hpe] at hset' hO7
      have hw6' := Lib.hid hw6
      have hY' := Lib.hid hY
      clear hset hW6 hp6 hw6 hY hpe hGf hGc hu0
      go_upto_region 5 with fail
      rw [← hw6'.out, ← hY'.out]
      clear f0 f1 f2 f3 f4 f5 f6 htb
      have y0 := row_cell hY6 (i := 0) rfl
      have yl := row_lt hY6
      go_wp2
      go_roundw
      case rel => exact ⟨k + 1, by go_num, by omega, hset', hO7⟩
      case measure => simp [intOf]; omega
    · obtain rfl : k = tn := by omega
      have hkn' : ¬ (k : Int) < (k : Int) := by omega
      have hf := Lib.hid (hfin.out ws hW.out hO.out)
      go_wp2
      exact hf.out
set_option maxRecDepth 100000 in
set_option maxHeartbeats 8000000 in
theorem tries_any {w : World} {c : ConfV} {d : ConfL} {pl : Tks} (h0 : Cf0 w c d pl) :
    Calls Tryz.prog 30 #[c.val] w (GrowI (1 + (c.ta.n : Int) * ((c.ta.n : Int) + 1)) w) := by
  obtain ⟨q, hq⟩ : ∃ q, q = w.heap.size := ⟨_, rfl⟩
  obtain ⟨W2, hW2⟩ : ∃ W2, W2 = w.alloc (.cells c.cells.toArray 27) := ⟨_, rfl⟩
  have hO2 : Only (fun _ => False) w W2 := by rw [hW2]; exact (Only.refl _ w).alloc _
  have b0 : W2.heap[q]? = some (.cells c.cells.toArray 27 (0, 0)) := by rw [hW2]; exact heap_new_at _ _ hq.symm
  have hs2 : W2.heap.size = q + 1 := by rw [hW2, hq]; simp
  have hq' := Lib.hid hq
  have hcy := Lib.hid (fun W (ho : Only (fun _ => False) W2 W) => cyv_of (ho.heap b0 (fun h => h)))
  obtain ⟨cv, hcv⟩ : ∃ cv, cv = c.val := ⟨_, rfl⟩
  have hn9 := h0.n
  obtain ⟨Z, hZ⟩ : ∃ Z, Z = GrowI (1 + (c.ta.n : Int) * ((c.ta.n : Int) + 1)) w := ⟨_, rfl⟩
  rw [← hZ]
  have hfin := Lib.hid (show Z (.returned (.int .i64 (1 + (c.ta.n : Int) * ((c.ta.n : Int) + 1)))) W2 from by rw [hZ]; exact ⟨rfl, hO2⟩)
  have hm1 : IntKind.i64.wrap ((c.ta.n : Int) + 1) = (c.ta.n : Int) + 1 := IntWalk.i64_in _ (by omega)
  have hb : 0 ≤ (c.ta.n : Int) * ((c.ta.n : Int) + 1) ∧ (c.ta.n : Int) * ((c.ta.n : Int) + 1) ≤ 1001000 := by
    have h1 : c.ta.n * (c.ta.n + 1) ≤ 1000 * 1001 := Nat.mul_le_mul hn9 (by omega)
    have h2 : (c.ta.n : Int) * ((c.ta.n : Int) + 1) = ((c.ta.n * (c.ta.n + 1) : Nat) : Int) := by simp
    omega
  have hm2 : IntKind.i64.wrap ((c.ta.n : Int) * ((c.ta.n : Int) + 1)) = (c.ta.n : Int) * ((c.ta.n : Int) + 1) := IntWalk.i64_in _ (by omega)
  have hm3 : IntKind.i64.wrap (1 + (c.ta.n : Int) * ((c.ta.n : Int) + 1)) = 1 + (c.ta.n : Int) * ((c.ta.n : Int) + 1) := IntWalk.i64_in _ (by omega)
  clear hb
  rw [← hcv]
  unfold ConfV.val at hcv
  subst hcv
  unfold CYv at hcy
  unfold ConfV.cells at hW2
  have hW2' := Lib.hid hW2
  have hs2' := Lib.hid hs2
  clear h0 hq hO2 b0 hW2 hs2 hZ
  obtain ⟨c0, wy, h, mi, ⟨mA, mn, mc⟩, g, ⟨cA, cn, cc⟩, ⟨eA, en, ec⟩, ⟨tA, tn, tc⟩, ⟨lA, ln, lc⟩⟩ := c
  dsimp only at *
  obtain ⟨d0, d1, d2, d3, d4, d5, d6, d7, d8, d9, dl⟩ := hcy.out W2 (Only.refl _ _)
  go_enter Tryz.func30, Tryz.ntmps30
  go_upto_region 1 with fail
  rw [← hq'.out]
  rw [← hW2'.out]
  go_wp2
  exact hfin.out
end Twn
end Go.Proofs.YtlbinlhaejhobaaGreatDoor
