/- assign.With, assign.Passes. Written by mkwith.py. -/
import Derived.Test.YtlbinlhaejhobaaGreatDoorTw3
namespace Go.Proofs.YtlbinlhaejhobaaGreatDoor
namespace Twn
open Go Go.RowKit Krn Asn Pre Adm

structure Cf0 (w : World) (c : ConfV) (d : ConfL) (pl : Tks) : Prop where
  wo : Words w
  C : ConfIn w c d pl
  A : ConfAt w c d pl
  n : c.ta.n ≤ 1000
  o : ∀ (i : Nat) t l, pl[i]? = some (t, l) → l.length ≤ 1000
theorem Cf0.new {w w' : World} {c : ConfV} {d : ConfL} {pl : Tks} (h : Cf0 w c d pl) (ho : Only (fun _ => False) w w') : Cf0 w' c d pl := ⟨h.wo.new ho, h.C.new ho, h.A.new ho, h.n, h.o⟩
theorem Cf0.len {w : World} {c : ConfV} {d : ConfL} {pl : Tks} (h : Cf0 w c d pl) : pl.length = c.ta.n := ts_len h.C
theorem win_ne {W : World} {e : TypeId} {sz n b : Nat} {v : Value} {h : Option Nat} {xs : List Value} {L : Array Value} {T : TypeId} (hW : Win W e sz v h n xs) (hb : W.heap[b]? = some (.cells L T (0, 0))) (he : e ≠ T) : ∀ k, h = some k → k ≠ b := fun k hk hkb => by
  obtain ⟨_, _, _, _, _, _, a⟩ := hW
  rcases a with a | ⟨g, _, L', hg, _, hh, _⟩
  · rw [a.1] at hk; cases hk
  · rw [hg] at hk
    cases hk
    subst hkb
    rw [hh] at hb
    simp at hb
    exact he hb.2
def zcv : Value := .agg #[.int .i64 0, .int .i64 0, .int .i64 0, .int .i64 0, .slice none 0 0, .int .i64 0, .slice none 0 0, .slice none 0 0, .slice none 0 0, .slice none 0 0]
/-- The thresholds of a list. -/
def thL (T : List Int) : Nat → TaskV → TaskV := thF (fun i => T.getD i 0)
def WithEnd (c : ConfV) (d : ConfL) (pl : Tks) (T : List Int) (w : World) (e : Ending) (w' : World) : Prop :=
  Only (fun _ => False) w w' ∧ (T.length ≠ c.ta.n → e = .returned (.tuple #[zcv, .int .i64 1])) ∧
  (T.length = c.ta.n → confZ c d (chg (thL T) pl) ≠ 0 → e = .returned (.tuple #[zcv, .int .i64 (confZ c d (chg (thL T) pl))])) ∧
  (T.length = c.ta.n → confZ c d (chg (thL T) pl) = 0 → ∃ c' us tb tp, e = .returned (.tuple #[c'.val, .int .i64 0]) ∧ CfAt w (thL T) c c' d pl us tb tp w')
/-- The first k thresholds of a list. -/
def thK (T : List Int) (k i : Nat) (t : TaskV) : TaskV := if i < k then { t with th := T.getD i 0 } else t
theorem CfAt.th {w W : World} {c c' : ConfV} {d : ConfL} {pl us : Tks} {g off k : Nat} {tp : List (Option Nat)} {T : List Int} {z : Int} (h : CfAt w (thK T k) c c' d pl us (some g) tp W) (hA : c'.ta.A = some ⟨g, off, none⟩) (hk : k < pl.length) (hz : T[k]? = some z) :
    ∃ us', CfAt w (thK T (k + 1)) c c' d pl us' (some g) tp (W.setCell ⟨g, off + k * 7 + 1, none⟩ (.int .i64 z)) := by
  have hg : T.getD k 0 = z := by rw [List.getD_eq_getElem?_getD, hz]; rfl
  obtain ⟨us', h'⟩ := h.put hA h.len hk (fun t => { t with th := z }) (.int .i64 z) (j := 1) (by omega) (fun _ _ => rfl) (fun _ _ => rfl) (fun _ => rfl)
  refine ⟨us', h'.congr fun i t _ => ?_⟩
  unfold thK
  by_cases e : i = k
  · subst e
    rw [if_pos rfl, if_neg (Nat.lt_irrefl _), if_pos (Nat.lt_succ_self _), hg]
  · rw [if_neg e]
    by_cases e2 : i < k
    · rw [if_pos e2, if_pos (by omega)]
    · rw [if_neg e2, if_neg (by omega)]
set_option maxRecDepth 100000 in
set_option maxHeartbeats 8000000 in
theorem with_any {w : World} {c : ConfV} {d : ConfL} {pl : Tks} (h0 : Cf0 w c d pl) {A : Option Addr} {n cap : Nat} {T : List Int} (hT0 : IntsAt w ⟨A, n, cap⟩ T) (hn9 : n ≤ 1000000) :
    Calls Tryz.prog 26 #[c.val, .slice A n cap] w (WithEnd c d pl T w) := by
  have hTn : T.length = n := hT0.len
  obtain ⟨q, hq⟩ : ∃ q, q = w.heap.size := ⟨_, rfl⟩
  obtain ⟨W1, hW1⟩ : ∃ W1, W1 = w.alloc (.cells c.cells.toArray 27) := ⟨_, rfl⟩
  have hO1 : Only (fun _ => False) w W1 := by rw [hW1]; exact (Only.refl _ w).alloc _
  have b1 : W1.heap[q]? = some (.cells c.cells.toArray 27 (0, 0)) := by rw [hW1]; exact heap_new_at _ _ hq.symm
  have hs1 : W1.heap.size = q + 1 := by rw [hW1, hq]; simp
  obtain ⟨W2, hW2⟩ : ∃ W2, W2 = W1.alloc (.cells #[.int .i64 0, .int .i64 0, .int .i64 0, .int .i64 0, .slice none 0 0, .int .i64 0, .slice none 0 0, .slice none 0 0, .slice none 0 0, .slice none 0 0] 27) := ⟨_, rfl⟩
  have hO12 : Only (fun _ => False) W1 W2 := by rw [hW2]; exact (Only.refl _ W1).alloc _
  have hO2 : Only (fun _ => False) w W2 := hO1.trans' hO12
  have b2 : W2.heap[q]? = some (.cells c.cells.toArray 27 (0, 0)) := hO12.heap b1 (fun h => h)
  have r2 : W2.heap[q + 1]? = some (.cells ([.int .i64 0, .int .i64 0, .int .i64 0, .int .i64 0, .slice none 0 0, .int .i64 0, .slice none 0 0, .slice none 0 0, .slice none 0 0, .slice none 0 0] : List Value).toArray 27 (0, 0)) := by rw [hW2]; exact heap_new_at _ _ hs1
  have hs2 : W2.heap.size = q + 2 := by rw [hW2]; simp [hs1]
  have hcy := Lib.hid (fun W (ho : Only (fun _ => False) W2 W) => cyv_of (ho.heap b2 (fun h => h)))
  have hr := Lib.hid (fun W (ho : Only (fun _ => False) W2 W) => ho.heap r2 (fun h => h))
  obtain ⟨cv, hcv⟩ : ∃ cv, cv = c.val := ⟨_, rfl⟩
  have kcf := Lib.hid (show Calls Tryz.prog 60 #[cv] W2 (CfEnd c d pl W2) from by rw [hcv]; exact config_any (h0.new hO2).C (h0.new hO2).A h0.n h0.o)
  have hlen := h0.len
  have kch := Lib.hid (fun W c' us tb tp (h : CfAt W2 (thK T n) c c' d pl us tb tp W) (e : n = c.ta.n) => show Calls Tryz.prog 42 #[c'.val] W (GrowI (confZ c d (chg (thL T) pl)) W) from by
    have h' : CfAt W2 (thL T) c c' d pl us tb tp W := h.congr (fun i t hi => by unfold thK thL thF; rw [if_pos (by omega)])
    rw [← h'.confZ]
    exact confCheck_any ((h0.new hO2).wo.new h.tw.only) (h'.confAt (h0.new hO2).C (h0.new hO2).A))
  obtain ⟨V, hV⟩ : ∃ V, V = confZ c d (chg (thL T) pl) := ⟨_, rfl⟩
  rw [← hV] at kch
  have hTa := Lib.hid (fun W (ho : Only (fun _ => False) W2 W) k (hk : k < n) => show ∃ z b off, T[k]? = some z ∧ A = some ⟨b, off, none⟩ ∧ b < W.heap.size ∧ W.cell? ⟨b, off + k, none⟩ = some (.int .i64 z) from by
    obtain ⟨z, hz⟩ : ∃ z, T[k]? = some z := ⟨_, List.getElem?_eq_getElem (by omega)⟩
    obtain ⟨b, off, q1, q2, q3⟩ := (hT0.new (hO2.trans' ho)).at_ k z hz
    exact ⟨z, b, off, hz, q1, q2, q3⟩)
  obtain ⟨Z, hZ⟩ : ∃ Z, Z = WithEnd c d pl T w := ⟨_, rfl⟩
  rw [← hZ]
  have hOw := Lib.hid (fun W (ho : Only (fun k => k = q + 1) W2 W) => show Only (fun _ => False) w W from hO2.trans ho (fun x hx e => by omega))
  have hf1 := Lib.hid (fun W (ho : Only (fun k => k = q + 1) W2 W) (e : n ≠ c.ta.n) => show Z (.returned (.tuple #[.agg #[.int .i64 0, .int .i64 0, .int .i64 0, .int .i64 0, .slice none 0 0, .int .i64 0, .slice none 0 0, .slice none 0 0, .slice none 0 0, .slice none 0 0], .int .i64 1])) W from by
    rw [hZ]
    exact ⟨hOw.out W ho, fun _ => rfl, fun h => absurd h (by omega), fun h => absurd h (by omega)⟩)
  have hf2 := Lib.hid (fun W (ho : Only (fun k => k = q + 1) W2 W) (e : n = c.ta.n) (hv : V ≠ 0) => show Z (.returned (.tuple #[.agg #[.int .i64 0, .int .i64 0, .int .i64 0, .int .i64 0, .slice none 0 0, .int .i64 0, .slice none 0 0, .slice none 0 0, .slice none 0 0, .slice none 0 0], .int .i64 V])) W from by
    rw [hZ]
    refine ⟨hOw.out W ho, fun h => absurd e (by omega), fun _ _ => ?_, fun _ h => ?_⟩
    · rw [hV]; rfl
    · rw [← hV] at h; exact absurd h hv)
  have hf3 := Lib.hid (fun W W3 c' us tb tp (h : CfAt W2 (thK T n) c c' d pl us tb tp W) (ho : Only (fun k => k = q + 1) W W3) (e : n = c.ta.n) (hv : V = 0) => show Z (.returned (.tuple #[.agg #[.int .i64 c'.s, .int .i64 c'.wy, .int .i64 c'.h, .int .i64 c'.mi, .slice c'.mb.A c'.mb.n c'.mb.cap, .int .i64 c'.g, .slice c'.cn.A c'.cn.n c'.cn.cap, .slice c'.ce.A c'.ce.n c'.ce.cap, .slice c'.ta.A c'.ta.n c'.ta.cap, .slice c'.li.A c'.li.n c'.li.cap], .int .i64 0])) W3 from by
    rw [hZ]
    have h' : CfAt W2 (thL T) c c' d pl us tb tp W := h.congr (fun i t hi => by unfold thK thL thF; rw [if_pos (by omega)])
    have hk : CfAt w (thL T) c c' d pl us tb tp W3 := (h'.from hO2).kept1 (q := q + 1) (fun hh m v xs hW k hk => win_ne hW (hr.out W h.tw.only) (by decide) k hk) (fun g hg => by have := h'.tw.fb g hg; omega) (fun g hg => by have := (h'.tw.fp g hg).1; omega) (by omega) ho
    exact ⟨hk.tw.only, fun h => absurd e (by omega), fun _ hv2 => absurd hv (by rw [hV]; exact hv2), fun _ _ => ⟨c', us, tb, tp, rfl, hk⟩⟩)
  have hth := Lib.hid (fun W c' us tp g off k z (h : CfAt W2 (thK T k) c c' d pl us (some g) tp W) (hA : c'.ta.A = some ⟨g, off, none⟩) (hk : k < c.ta.n) (hz : T[k]? = some z) => h.th hA (by omega) hz)
  have hrow := Lib.hid (fun W c' us tb tp k (h : CfAt W2 (thK T k) c c' d pl us tb tp W) (hk : k < c.ta.n) => show ∃ g off u, tb = some g ∧ c'.ta.A = some ⟨g, off, none⟩ ∧ c'.ta.n = c.ta.n ∧ q + 2 ≤ g ∧ g < W.heap.size ∧ W.cell? ⟨g, off + k * 7 + 1, none⟩ = some u ∧ ∀ i, W.frozen? ⟨g, i, none⟩ = false from by
    obtain ⟨y, hy⟩ : ∃ y, us[k]? = some y := ⟨_, List.getElem?_eq_getElem (by rw [h.tw.len]; omega)⟩
    have hw := h.tw.win
    rw [← h.tw.len] at hw
    obtain ⟨g, off, cap3, e1, e2, -, -, -, h1, h3, h2⟩ := win_row (f := tkV) tkV_len hw hy
    unfold Sl.val at e2
    injection e2 with e3 e4 e5
    have := h.tw.fb g e1
    exact ⟨g, off, _, e1, e3, by have := (key_nums h.key); omega, by omega, h1, h3 1 _ rfl, h2⟩)
  have hstart := Lib.hid (fun W c' us tb tp (h : CfAt W2 (fun _ t => t) c c' d pl us tb tp W) => show CfAt W2 (thK T 0) c c' d pl us tb tp W from h.congr (fun i t _ => by unfold thK; rw [if_neg (by omega)]))
  have hnew := Lib.hid (fun W W3 f c' us tb tp (h : CfAt W2 f c c' d pl us tb tp W) (ho : Only (fun _ => False) W W3) => h.new ho)
  rw [← hcv]
  unfold ConfV.val at hcv
  subst hcv
  unfold CYv at hcy
  unfold ConfV.cells at hW1
  have hq' := Lib.hid hq
  have hW1' := Lib.hid hW1
  have hW2' := Lib.hid hW2
  have hs2' := Lib.hid hs2
  clear h0 hT0 hTn hq hW1 hO1 b1 hs1 hW2 hO12 hO2 b2 r2 hs2 hlen hV hZ hOw
  obtain ⟨c0, wy, h, mi, ⟨mA, mn, mc⟩, g, ⟨cA, cn, cc⟩, ⟨eA, en, ec⟩, ⟨tA, tn, tc⟩, ⟨lA, ln, lc⟩⟩ := c
  dsimp only at *
  obtain ⟨d0, d1, d2, d3, d4, d5, d6, d7, d8, d9, dl⟩ := hcy.out W2 (Only.refl _ _)
  have r2 := hr.out W2 (Only.refl _ _)
  go_enter Tryz.func26, Tryz.ntmps26
  go_upto_region 1 with fail
  rw [← hq'.out]
  rw [← hW1'.out]
  rw [← hW2'.out]
  by_cases hnt : n = tn
  · have hnt' := Lib.hid hnt
    subst hnt
    have hnn : ((n : Int) != (n : Int)) = false := by simp
    clear r2
    go_wp2_with fail
    refine kcf.out.mono ?_
    rintro e w3 ⟨c', us, tb, tp, rfl, hF⟩
    have hF1 := Lib.hid (hstart.out _ _ _ _ _ hF)
    clear hF hnn d0 d1 d2 d3 d4 d5 d6 d7 d8 d9 dl
    unfold ConfV.val
    go_upto_region 4 with fail
    obtain ⟨X, hX⟩ : ∃ X, X = w3.heap.size := ⟨_, rfl⟩
    obtain ⟨w4, hw4⟩ : ∃ W, W = w3.alloc (.cells #[.int .i64 c'.s, .int .i64 c'.wy, .int .i64 c'.h, .int .i64 c'.mi, .slice c'.mb.A c'.mb.n c'.mb.cap, .int .i64 c'.g, .slice c'.cn.A c'.cn.n c'.cn.cap, .slice c'.ce.A c'.ce.n c'.ce.cap, .slice c'.ta.A c'.ta.n c'.ta.cap, .slice c'.li.A c'.li.n c'.li.cap] 27) := ⟨_, rfl⟩
    rw [← hw4, ← hX]
    have hX4 := Lib.hid (show w4.heap[X]? = some (.cells ([.int .i64 c'.s, .int .i64 c'.wy, .int .i64 c'.h, .int .i64 c'.mi, .slice c'.mb.A c'.mb.n c'.mb.cap, .int .i64 c'.g, .slice c'.cn.A c'.cn.n c'.cn.cap, .slice c'.ce.A c'.ce.n c'.ce.cap, .slice c'.ta.A c'.ta.n c'.ta.cap, .slice c'.li.A c'.li.n c'.li.cap] : List Value).toArray 27 (0, 0)) from by rw [hw4, hX]; exact heap_new_at _ _ rfl)
    have hF4 := Lib.hid (hnew.out _ w4 _ _ _ _ _ hF1.out (by rw [hw4]; exact (Only.refl _ _).alloc _))
    have htX := Lib.hid (show ∀ g, tb = some g → g < X from fun g hg => by
      have := hF1.out.tw.win.lt g hg
      omega)
    have hqX := Lib.hid (show q + 2 ≤ X from by have := hF1.out.tw.only.size; have := hs2'.out; omega)
    clear hX hw4 hF1
    go_wp2
    go_loopw [7, 8, 21] (fun _ _ i wr => ∃ (k : Nat) (us : Tks), i = .int .i64 k ∧ k ≤ n ∧ CfAt W2 (thK T k) _ c' d pl us tb tp wr ∧ Hid (wr.heap[X]? = some (.cells ([.int .i64 c'.s, .int .i64 c'.wy, .int .i64 c'.h, .int .i64 c'.mi, .slice c'.mb.A c'.mb.n c'.mb.cap, .int .i64 c'.g, .slice c'.cn.A c'.cn.n c'.cn.cap, .slice c'.ce.A c'.ce.n c'.ce.cap, .slice c'.ta.A c'.ta.n c'.ta.cap, .slice c'.li.A c'.li.n c'.li.cap] : List Value).toArray 27 (0, 0)))) (fun _ _ i _ => n - (intOf i).toNat)
    case atStart => exact ⟨0, us, rfl, Nat.zero_le _, hF4.out, hX4⟩
    case round =>
      obtain ⟨k, us2, rfl, hk, hFk, hXk⟩ := hrel
      obtain ⟨ws, hws⟩ : ∃ ws : World, ws = wr := ⟨_, rfl⟩
      subst hws
      have hFk' := Lib.hid hFk
      clear hFk
      by_cases hkn : k < n
      · have hkn' : (k : Int) < (n : Int) := by omega
        obtain ⟨z, b, off, hz, hAe, hb, hc⟩ := hTa.out ws hFk'.out.tw.only k hkn
        obtain ⟨g2, off2, u2, htb, hA2, hn2, hg2, hgl, hcu, hfz⟩ := hrow.out _ _ _ _ _ _ hFk'.out hkn
        subst htb
        subst hAe
        obtain ⟨us3, hF3⟩ := hth.out _ _ _ _ _ _ _ _ hFk'.out hA2 hkn hz
        have hF3' := Lib.hid hF3
        have hx := row_cell hXk.out (i := 8) rfl
        have hxl := row_lt hXk.out
        rw [hA2, hn2] at hx
        have hgX := htX.out g2 rfl
        have hf := hfz (off2 + k * 7 + 1)
        have hX5 := Lib.hid (heap_kept_set hXk.out (p := ⟨g2, off2 + k * 7 + 1, none⟩) (by show X ≠ g2; omega) (.int .i64 z))
        clear hF3 hfz hz hA2 hn2
        go_wp2
        go_roundw
        case rel => exact ⟨k + 1, us3, by go_num, by omega, hF3'.out, hX5⟩
        case measure => simp [intOf]; omega
      · obtain rfl : k = n := by omega
        have hkn' : ¬ (k : Int) < (k : Int) := by omega
        have x0 := row_cell hXk.out (i := 0) rfl
        have x1 := row_cell hXk.out (i := 1) rfl
        have x2 := row_cell hXk.out (i := 2) rfl
        have x3 := row_cell hXk.out (i := 3) rfl
        have x4 := row_cell hXk.out (i := 4) rfl
        have x5 := row_cell hXk.out (i := 5) rfl
        have x6 := row_cell hXk.out (i := 6) rfl
        have x7 := row_cell hXk.out (i := 7) rfl
        have x8 := row_cell hXk.out (i := 8) rfl
        have x9 := row_cell hXk.out (i := 9) rfl
        have xl := row_lt hXk.out
        go_wp2_with fail
        refine (kch.out _ _ _ _ _ hFk'.out (by trivial)).mono ?_
        rintro e w7 ⟨rfl, ho⟩
        have hF7 := Lib.hid (hnew.out _ w7 _ _ _ _ _ hFk'.out ho)
        have hX7 := Lib.hid (ho.heap hXk.out (fun h => h))
        have r7 := hr.out w7 hF7.out.tw.only
        clear ho x0 x1 x2 x3 x4 x5 x6 x7 x8 x9 xl hXk hFk'
        by_cases hv : V = 0
        · have hVe : (V != 0) = false := by simp [hv]
          have hf := Lib.hid (fun W3 ho => hf3.out w7 W3 c' us2 tb tp hF7.out ho (by trivial) hv)
          have x0 := row_cell hX7.out (i := 0) rfl
          have x1 := row_cell hX7.out (i := 1) rfl
          have x2 := row_cell hX7.out (i := 2) rfl
          have x3 := row_cell hX7.out (i := 3) rfl
          have x4 := row_cell hX7.out (i := 4) rfl
          have x5 := row_cell hX7.out (i := 5) rfl
          have x6 := row_cell hX7.out (i := 6) rfl
          have x7 := row_cell hX7.out (i := 7) rfl
          have x8 := row_cell hX7.out (i := 8) rfl
          have x9 := row_cell hX7.out (i := 9) rfl
          have xl := row_lt hX7.out
          have y0 := row_free r7 0
          have z0 := row_cell r7 (i := 0) rfl
          have y1 := row_free r7 1
          have z1 := row_cell r7 (i := 1) rfl
          have y2 := row_free r7 2
          have z2 := row_cell r7 (i := 2) rfl
          have y3 := row_free r7 3
          have z3 := row_cell r7 (i := 3) rfl
          have y4 := row_free r7 4
          have z4 := row_cell r7 (i := 4) rfl
          have y5 := row_free r7 5
          have z5 := row_cell r7 (i := 5) rfl
          have y6 := row_free r7 6
          have z6 := row_cell r7 (i := 6) rfl
          have y7 := row_free r7 7
          have z7 := row_cell r7 (i := 7) rfl
          have y8 := row_free r7 8
          have z8 := row_cell r7 (i := 8) rfl
          have y9 := row_free r7 9
          have z9 := row_cell r7 (i := 9) rfl
          have yl := row_lt r7
          have hS := Lib.hid (st10_row (v0 := (.int .i64 c'.s)) (v1 := (.int .i64 c'.wy)) (v2 := (.int .i64 c'.h)) (v3 := (.int .i64 c'.mi)) (v4 := (.slice c'.mb.A c'.mb.n c'.mb.cap)) (v5 := (.int .i64 c'.g)) (v6 := (.slice c'.cn.A c'.cn.n c'.cn.cap)) (v7 := (.slice c'.ce.A c'.ce.n c'.ce.cap)) (v8 := (.slice c'.ta.A c'.ta.n c'.ta.cap)) (v9 := (.slice c'.li.A c'.li.n c'.li.cap)) r7)
          have hT := Lib.hid (st10_only w7 (q + 1) (.int .i64 c'.s) (.int .i64 c'.wy) (.int .i64 c'.h) (.int .i64 c'.mi) (.slice c'.mb.A c'.mb.n c'.mb.cap) (.int .i64 c'.g) (.slice c'.cn.A c'.cn.n c'.cn.cap) (.slice c'.ce.A c'.ce.n c'.ce.cap) (.slice c'.ta.A c'.ta.n c'.ta.cap) (.slice c'.li.A c'.li.n c'.li.cap))
          clear hv
          go_wp2
          change bodyPost _ _ _ _ _ (st10 w7 (q + 1) (.int .i64 c'.s) (.int .i64 c'.wy) (.int .i64 c'.h) (.int .i64 c'.mi) (.slice c'.mb.A c'.mb.n c'.mb.cap) (.int .i64 c'.g) (.slice c'.cn.A c'.cn.n c'.cn.cap) (.slice c'.ce.A c'.ce.n c'.ce.cap) (.slice c'.ta.A c'.ta.n c'.ta.cap) (.slice c'.li.A c'.li.n c'.li.cap))
          obtain ⟨W9, hW9⟩ : ∃ W9, W9 = st10 w7 (q + 1) (.int .i64 c'.s) (.int .i64 c'.wy) (.int .i64 c'.h) (.int .i64 c'.mi) (.slice c'.mb.A c'.mb.n c'.mb.cap) (.int .i64 c'.g) (.slice c'.cn.A c'.cn.n c'.cn.cap) (.slice c'.ce.A c'.ce.n c'.ce.cap) (.slice c'.ta.A c'.ta.n c'.ta.cap) (.slice c'.li.A c'.li.n c'.li.cap) := ⟨_, rfl⟩
          rw [← hW9] at hS hT ⊢
          have ce0 := row_cell hS.out (i := 0) rfl
          have ce1 := row_cell hS.out (i := 1) rfl
          have ce2 := row_cell hS.out (i := 2) rfl
          have ce3 := row_cell hS.out (i := 3) rfl
          have ce4 := row_cell hS.out (i := 4) rfl
          have ce5 := row_cell hS.out (i := 5) rfl
          have ce6 := row_cell hS.out (i := 6) rfl
          have ce7 := row_cell hS.out (i := 7) rfl
          have ce8 := row_cell hS.out (i := 8) rfl
          have ce9 := row_cell hS.out (i := 9) rfl
          exact bodyPost_ret (v := .tuple #[.agg #[.int .i64 c'.s, .int .i64 c'.wy, .int .i64 c'.h, .int .i64 c'.mi, .slice c'.mb.A c'.mb.n c'.mb.cap, .int .i64 c'.g, .slice c'.cn.A c'.cn.n c'.cn.cap, .slice c'.ce.A c'.ce.n c'.ce.cap, .slice c'.ta.A c'.ta.n c'.ta.cap, .slice c'.li.A c'.li.n c'.li.cap], .int .i64 0]) (by simp [results, Tryz.results26, go_sem, ce0, ce1, ce2, ce3, ce4, ce5, ce6, ce7, ce8, ce9]) rfl (hf.out W9 hT.out)
        · have hVe : (V != 0) = true := by simpa using hv
          have hf := Lib.hid (fun W3 ho => hf2.out W3 ho (by trivial) hv)
          have hO7 := Lib.hid (hF7.out.tw.only)
          have y0 := row_free r7 0
          have z0 := row_cell r7 (i := 0) rfl
          have y1 := row_free r7 1
          have z1 := row_cell r7 (i := 1) rfl
          have y2 := row_free r7 2
          have z2 := row_cell r7 (i := 2) rfl
          have y3 := row_free r7 3
          have z3 := row_cell r7 (i := 3) rfl
          have y4 := row_free r7 4
          have z4 := row_cell r7 (i := 4) rfl
          have y5 := row_free r7 5
          have z5 := row_cell r7 (i := 5) rfl
          have y6 := row_free r7 6
          have z6 := row_cell r7 (i := 6) rfl
          have y7 := row_free r7 7
          have z7 := row_cell r7 (i := 7) rfl
          have y8 := row_free r7 8
          have z8 := row_cell r7 (i := 8) rfl
          have y9 := row_free r7 9
          have z9 := row_cell r7 (i := 9) rfl
          have yl := row_lt r7
          have hS := Lib.hid (st10_row (v0 := (.int .i64 0)) (v1 := (.int .i64 0)) (v2 := (.int .i64 0)) (v3 := (.int .i64 0)) (v4 := (.slice none 0 0)) (v5 := (.int .i64 0)) (v6 := (.slice none 0 0)) (v7 := (.slice none 0 0)) (v8 := (.slice none 0 0)) (v9 := (.slice none 0 0)) r7)
          have hT := Lib.hid (st10_only w7 (q + 1) (.int .i64 0) (.int .i64 0) (.int .i64 0) (.int .i64 0) (.slice none 0 0) (.int .i64 0) (.slice none 0 0) (.slice none 0 0) (.slice none 0 0) (.slice none 0 0))
          clear hv
          go_wp2
          change bodyPost _ _ _ _ _ (st10 w7 (q + 1) (.int .i64 0) (.int .i64 0) (.int .i64 0) (.int .i64 0) (.slice none 0 0) (.int .i64 0) (.slice none 0 0) (.slice none 0 0) (.slice none 0 0) (.slice none 0 0))
          obtain ⟨W9, hW9⟩ : ∃ W9, W9 = st10 w7 (q + 1) (.int .i64 0) (.int .i64 0) (.int .i64 0) (.int .i64 0) (.slice none 0 0) (.int .i64 0) (.slice none 0 0) (.slice none 0 0) (.slice none 0 0) (.slice none 0 0) := ⟨_, rfl⟩
          rw [← hW9] at hS hT ⊢
          have ce0 := row_cell hS.out (i := 0) rfl
          have ce1 := row_cell hS.out (i := 1) rfl
          have ce2 := row_cell hS.out (i := 2) rfl
          have ce3 := row_cell hS.out (i := 3) rfl
          have ce4 := row_cell hS.out (i := 4) rfl
          have ce5 := row_cell hS.out (i := 5) rfl
          have ce6 := row_cell hS.out (i := 6) rfl
          have ce7 := row_cell hS.out (i := 7) rfl
          have ce8 := row_cell hS.out (i := 8) rfl
          have ce9 := row_cell hS.out (i := 9) rfl
          exact bodyPost_ret (v := .tuple #[.agg #[.int .i64 0, .int .i64 0, .int .i64 0, .int .i64 0, .slice none 0 0, .int .i64 0, .slice none 0 0, .slice none 0 0, .slice none 0 0, .slice none 0 0], .int .i64 V]) (by simp [results, Tryz.results26, go_sem, ce0, ce1, ce2, ce3, ce4, ce5, ce6, ce7, ce8, ce9]) rfl (hf.out W9 ((hO7.out.mono (fun _ _ h => h.elim)).trans' hT.out))
  · have hnn : ((n : Int) != (tn : Int)) = true := by simp; omega
    have hf := Lib.hid (fun W3 ho => hf1.out W3 ho hnt)
    have y0 := row_free r2 0
    have z0 := row_cell r2 (i := 0) rfl
    have y1 := row_free r2 1
    have z1 := row_cell r2 (i := 1) rfl
    have y2 := row_free r2 2
    have z2 := row_cell r2 (i := 2) rfl
    have y3 := row_free r2 3
    have z3 := row_cell r2 (i := 3) rfl
    have y4 := row_free r2 4
    have z4 := row_cell r2 (i := 4) rfl
    have y5 := row_free r2 5
    have z5 := row_cell r2 (i := 5) rfl
    have y6 := row_free r2 6
    have z6 := row_cell r2 (i := 6) rfl
    have y7 := row_free r2 7
    have z7 := row_cell r2 (i := 7) rfl
    have y8 := row_free r2 8
    have z8 := row_cell r2 (i := 8) rfl
    have y9 := row_free r2 9
    have z9 := row_cell r2 (i := 9) rfl
    have yl := row_lt r2
    have hS := Lib.hid (st10_row (v0 := (.int .i64 0)) (v1 := (.int .i64 0)) (v2 := (.int .i64 0)) (v3 := (.int .i64 0)) (v4 := (.slice none 0 0)) (v5 := (.int .i64 0)) (v6 := (.slice none 0 0)) (v7 := (.slice none 0 0)) (v8 := (.slice none 0 0)) (v9 := (.slice none 0 0)) r2)
    have hT := Lib.hid (st10_only W2 (q + 1) (.int .i64 0) (.int .i64 0) (.int .i64 0) (.int .i64 0) (.slice none 0 0) (.int .i64 0) (.slice none 0 0) (.slice none 0 0) (.slice none 0 0) (.slice none 0 0))
    clear hnt
    go_wp2
    change bodyPost _ _ _ _ _ (st10 W2 (q + 1) (.int .i64 0) (.int .i64 0) (.int .i64 0) (.int .i64 0) (.slice none 0 0) (.int .i64 0) (.slice none 0 0) (.slice none 0 0) (.slice none 0 0) (.slice none 0 0))
    obtain ⟨W9, hW9⟩ : ∃ W9, W9 = st10 W2 (q + 1) (.int .i64 0) (.int .i64 0) (.int .i64 0) (.int .i64 0) (.slice none 0 0) (.int .i64 0) (.slice none 0 0) (.slice none 0 0) (.slice none 0 0) (.slice none 0 0) := ⟨_, rfl⟩
    rw [← hW9] at hS hT ⊢
    have ce0 := row_cell hS.out (i := 0) rfl
    have ce1 := row_cell hS.out (i := 1) rfl
    have ce2 := row_cell hS.out (i := 2) rfl
    have ce3 := row_cell hS.out (i := 3) rfl
    have ce4 := row_cell hS.out (i := 4) rfl
    have ce5 := row_cell hS.out (i := 5) rfl
    have ce6 := row_cell hS.out (i := 6) rfl
    have ce7 := row_cell hS.out (i := 7) rfl
    have ce8 := row_cell hS.out (i := 8) rfl
    have ce9 := row_cell hS.out (i := 9) rfl
    exact bodyPost_ret (v := .tuple #[.agg #[.int .i64 0, .int .i64 0, .int .i64 0, .int .i64 0, .slice none 0 0, .int .i64 0, .slice none 0 0, .slice none 0 0, .slice none 0 0, .slice none 0 0], .int .i64 1]) (by simp [results, Tryz.results26, go_sem, ce0, ce1, ce2, ce3, ce4, ce5, ce6, ce7, ce8, ce9]) rfl (hf.out W9 hT.out)
end Twn
end Go.Proofs.YtlbinlhaejhobaaGreatDoor
