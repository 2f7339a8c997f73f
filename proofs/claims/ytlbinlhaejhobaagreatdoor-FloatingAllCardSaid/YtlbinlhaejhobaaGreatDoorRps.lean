/- Whether an assignment, or a float, passes, by the document: the laws' own calls. Written by mkrps.py. -/
import Derived.Test.YtlbinlhaejhobaaGreatDoorSrh
import Derived.Test.YtlbinlhaejhobaaGreatDoorRef3
import Derived.Test.YtlbinlhaejhobaaGreatDoorRef8
namespace Go.Proofs.YtlbinlhaejhobaaGreatDoor
namespace Twn
open Go Go.RowKit Krn Asn Pre Adm
open Bch (GrowU)

/-- Tasks of the call's own, their programs those that were there. -/
structure ShAt (w : World) (f : Nat → TaskV → TaskV) (c : ConfV) (pl : Tks) (A : Option Addr) (cap : Nat) (tb : Option Nat) (W : World) : Prop where
  win : Win W 49 7 (.slice A c.ta.n cap) tb c.ta.n (rowC tkV (chg f pl))
  fb : ∀ g, tb = some g → w.heap.size ≤ g
  only : Only (fun _ => False) w W
theorem ShAt.new {w W W' : World} {f : Nat → TaskV → TaskV} {c : ConfV} {pl : Tks} {A : Option Addr} {cap : Nat} {tb : Option Nat} (h : ShAt w f c pl A cap tb W) (ho : Only (fun _ => False) W W') : ShAt w f c pl A cap tb W' := ⟨h.win.kept ho (fun _ _ h => h), h.fb, h.only.trans' ho⟩
theorem ShAt.congr {w W : World} {f g : Nat → TaskV → TaskV} {c : ConfV} {pl : Tks} {A : Option Addr} {cap : Nat} {tb : Option Nat} (h : ShAt w f c pl A cap tb W) (hf : ∀ i t, i < pl.length → f i t = g i t) : ShAt w g c pl A cap tb W := ⟨by rw [← chg_congr hf]; exact h.win, h.fb, h.only⟩
theorem ShAt.kept1 {w W W' : World} {f : Nat → TaskV → TaskV} {c : ConfV} {pl : Tks} {A : Option Addr} {cap X : Nat} {tb : Option Nat} (h : ShAt w f c pl A cap tb W) (ho : Only (fun k => k = X) W W') (h1 : ∀ g, tb = some g → g ≠ X) (h2 : w.heap.size ≤ X) : ShAt w f c pl A cap tb W' := ⟨h.win.kept ho h1, h.fb, h.only.trans ho (fun x hx e => by omega)⟩
def shC (c : ConfV) (A : Option Addr) (cap : Nat) : ConfV := { c with ta := ⟨A, c.ta.n, cap⟩ }
theorem shC_key (c : ConfV) (A : Option Addr) (cap : Nat) : keyC (shC c A cap) = keyC c := rfl
theorem ShAt.put {w W : World} {f : Nat → TaskV → TaskV} {c : ConfV} {pl : Tks} {g off cap k j : Nat} (h : ShAt w f c pl (some ⟨g, off, none⟩) cap (some g) W) (hl : pl.length = c.ta.n) (hk : k < c.ta.n) (m : TaskV → TaskV) (u : Value) (hj : j < 7) (hm : ∀ t l, tkV (m t, l) = (tkV (t, l)).set j u) :
    ShAt w (fun i t => if i = k then m (f i t) else f i t) c pl (some ⟨g, off, none⟩) cap (some g) (W.setCell ⟨g, off + k * 7 + j, none⟩ u) := by
  have hl2 : (chg f pl).length = c.ta.n := by rw [chg_len, hl]
  obtain ⟨⟨t, l⟩, hx⟩ : ∃ x, pl[k]? = some x := ⟨_, List.getElem?_eq_getElem (by omega)⟩
  have hx2 : (chg f pl)[k]? = some (f k t, l) := by rw [chg_at, hx]; rfl
  have hw := h.win
  rw [← hl2] at hw
  have h1 := win_turn (y := (m (f k t), l)) (j := j) (u := u) tkV_len hw hx2 hj (hm _ _)
  have e : (chg f pl).set k (m (f k t), l) = chg (fun i t => if i = k then m (f i t) else f i t) pl := by
    refine List.ext_getElem? (fun i => ?_)
    rw [chg_at]
    by_cases hi : i = k
    · subst hi
      rw [List.getElem?_set_self (by omega), hx]
      show _ = some (if i = i then m (f i t) else f i t, l)
      rw [if_pos rfl]
    · rw [List.getElem?_set_ne (fun e => hi e.symm), chg_at]
      cases pl[i]? with
      | none => rfl
      | some y => show some (f i y.1, y.2) = some (if i = k then m (f i y.1) else f i y.1, y.2); rw [if_neg hi]
  rw [List.length_set, hl2, e] at h1
  exact ⟨h1, h.fb, h.only.trans ((Only.refl (fun x => x = g) W).setCell (p := ⟨g, off + k * 7 + j, none⟩) (fun _ => rfl) _) (fun x hx e => by have := h.fb g rfl; omega)⟩
theorem ShAt.row {w W : World} {f : Nat → TaskV → TaskV} {c : ConfV} {pl : Tks} {A : Option Addr} {cap k j : Nat} {tb : Option Nat} (h : ShAt w f c pl A cap tb W) (hl : pl.length = c.ta.n) (hk : k < c.ta.n) (hj : j < 7) : ∃ g off u, tb = some g ∧ A = some ⟨g, off, none⟩ ∧ w.heap.size ≤ g ∧ g < W.heap.size ∧ W.cell? ⟨g, off + k * 7 + j, none⟩ = some u ∧ ∀ i, W.frozen? ⟨g, i, none⟩ = false := by
  have hl2 : (chg f pl).length = c.ta.n := by rw [chg_len, hl]
  obtain ⟨y, hy⟩ : ∃ y, (chg f pl)[k]? = some y := ⟨_, List.getElem?_eq_getElem (by omega)⟩
  have hw := h.win
  rw [← hl2] at hw
  obtain ⟨g, off, cap3, e1, e2, -, -, -, h1, h3, h2⟩ := win_row (f := tkV) tkV_len hw hy
  injection e2 with e3 e4 e5
  obtain ⟨u, hu⟩ : ∃ u, (tkV y)[j]? = some u := ⟨_, List.getElem?_eq_getElem (by rw [tkV_len]; exact hj)⟩
  exact ⟨g, off, u, e1, e3, h.fb g e1, h1, h3 j u hu, h2⟩
theorem ShAt.conf {w0 w W : World} {f : Nat → TaskV → TaskV} {c : ConfV} {d : ConfL} {pl : Tks} {A : Option Addr} {cap : Nat} {tb : Option Nat} (h : ShAt w f c pl A cap tb W) (hC : ConfIn w0 c d pl) (ho : Only (fun _ => False) w0 W) (hfo : ∀ i t, (f i t).o = t.o) : ConfIn W (shC c A cap) d (chg f pl) := by
  have hl := ts_len hC
  have hl2 : (chg f pl).length = c.ta.n := by rw [chg_len, hl]
  have hC' := hC.new ho
  refine ⟨hC'.mb, hC'.cn, hC'.ce, hC'.li, ⟨?_, ?_, fun k x hx => ?_⟩, fun i x l hi => ?_, hC.n⟩
  · unfold Tks.ts; rw [List.length_map, hl2]; rfl
  · obtain ⟨p, cap', hv, hv1, -⟩ := h.win.form
    injection hv with _ e2 e3
    show c.ta.n ≤ cap
    omega
  · unfold Tks.ts at hx
    rw [List.getElem?_map] at hx
    cases hu : (chg f pl)[k]? with
    | none => rw [hu] at hx; simp at hx
    | some y =>
      obtain ⟨x', l⟩ := y
      rw [hu] at hx
      obtain rfl : x' = x := by simpa using hx
      have hw := h.win
      rw [← hl2] at hw
      obtain ⟨g, off, cap3, -, hv, -, -, -, hg, hc, -⟩ := win_row (f := tkV) tkV_len hw hu
      injection hv with e1 _ _
      exact ⟨g, off, e1, hg, hc 0 _ rfl, hc 1 _ rfl, hc 2 _ rfl, hc 3 _ rfl, hc 4 _ rfl, hc 5 _ rfl, hc 6 _ rfl⟩
  · rw [chg_at] at hi
    cases hp : pl[i]? with
    | none => rw [hp] at hi; simp at hi
    | some y =>
      obtain ⟨t, l0⟩ := y
      rw [hp] at hi
      obtain ⟨rfl, rfl⟩ : f i t = x ∧ l0 = l := by simpa using hi
      rw [hfo]
      exact hC'.p i t l0 hp
theorem ShAt.confAt {w0 w W : World} {f : Nat → TaskV → TaskV} {c : ConfV} {d : ConfL} {pl : Tks} {A : Option Addr} {cap : Nat} {tb : Option Nat} (h : ShAt w f c pl A cap tb W) (hC : ConfIn w0 c d pl) (hA : ConfAt w0 c d pl) (ho : Only (fun _ => False) w0 W) (hfo : ∀ i t, (f i t).o = t.o) : ConfAt W (shC c A cap) d (chg f pl) := by
  have hI := h.conf hC ho hfo
  refine ⟨⟨hI.mb, hI.cn, hI.ce, hI.li, hA.o.s⟩, hI.t, ⟨fun i t l hi => ?_⟩⟩
  obtain ⟨q1, q2, q3⟩ := hI.p i t l hi
  refine ⟨q1, q2, ?_, q3⟩
  rw [chg_at] at hi
  cases hp : pl[i]? with
  | none => rw [hp] at hi; simp at hi
  | some y =>
    obtain ⟨t0, l0⟩ := y
    rw [hp] at hi
    obtain ⟨rfl, rfl⟩ : f i t0 = t ∧ l0 = l := by simpa using hi
    rw [hfo]
    exact (hA.p.row i t0 l0 hp).2.2.1
theorem chg_pe {f : Nat → TaskV → TaskV} (hk : Keeps f) {pl : Tks} (hS : ∀ (i : Nat) t, pl.ts[i]? = some t → t.pe ≤ 1500) : ∀ (i : Nat) t, (chg f pl).ts[i]? = some t → t.pe ≤ 1500 := fun i t ht => by
  unfold Tks.ts at ht
  rw [List.getElem?_map, chg_at] at ht
  cases hp : pl[i]? with
  | none => rw [hp] at ht; simp at ht
  | some y =>
    obtain ⟨t0, l0⟩ := y
    rw [hp] at ht
    obtain rfl : f i t0 = t := by simpa using ht
    rw [hk.pe]
    exact hS i t0 (ts_some hp)
/-- What the document's two calls tell of such a configuration. -/
theorem ShAt.tells {w0 w W : World} {f : Nat → TaskV → TaskV} {c : ConfV} {d : ConfL} {pl : Tks} {A : Option Addr} {cap : Nat} {tb : Option Nat} (h : ShAt w f c pl A cap tb W) (h0 : Cf0 w0 c d pl) (ho : Only (fun _ => False) w0 W) (hk : Keeps f) (hfo : ∀ i t, (f i t).o = t.o) (hS : ∀ (i : Nat) t, pl.ts[i]? = some t → t.pe ≤ 1500) :
    Calls Tryz.prog 14 #[(shC c A cap).val] W (GrowI (confZ c d (chg f pl)) W) ∧ (confZ c d (chg f pl) = 0 → Calls Tryz.prog 17 #[(shC c A cap).val] W (GrowB (admB c d (chg f pl)) W)) := by
  have hA := h.confAt h0.C h0.A ho hfo
  have hC := h.conf h0.C ho hfo
  have e : confZ (shC c A cap) d (chg f pl) = confZ c d (chg f pl) := confZ_same (shC_key c A cap) rfl
  refine ⟨by rw [← e]; exact rconfCheck_any hA, fun hz => ?_⟩
  have hF : Fin0.Fine (shC c A cap) d (chg f pl) := Fin0.of_zero (by rw [e]; exact hz)
  have h1 := radmitted_any hC hF (chg_pe hk hS)
  rw [rad_late hC hF _ (Nat.le_refl _)] at h1
  have e2 : admB c d (chg f pl) = !lateB (shC c A cap) d (chg f pl) (shC c A cap).ta.n := by
    rw [← admB_same (shC_key c A cap) rfl]
    unfold admB
    rw [e, hz]
    rfl
  rw [e2]
  exact h1
set_option maxRecDepth 100000 in
set_option maxHeartbeats 8000000 in
theorem rpasses_any {w : World} {c : ConfV} {d : ConfL} {pl : Tks} (h0 : Cf0 w c d pl) (hS : ∀ (i : Nat) t, pl.ts[i]? = some t → t.pe ≤ 1500) {A : Option Addr} {n cap : Nat} {T : List Int} (hT0 : IntsAt w ⟨A, n, cap⟩ T) (hn9' : n ≤ 1000000) :
    Calls Tryz.prog 28 #[c.val, .slice A n cap] w (GrowB (pasB c d pl T) w) := by
  have hTn : T.length = n := hT0.len
  obtain ⟨q, hq⟩ : ∃ q, q = w.heap.size := ⟨_, rfl⟩
  obtain ⟨W2, hW2⟩ : ∃ W2, W2 = w.alloc (.cells c.cells.toArray 27) := ⟨_, rfl⟩
  have hO2 : Only (fun _ => False) w W2 := by rw [hW2]; exact (Only.refl _ w).alloc _
  have b0 : W2.heap[q]? = some (.cells c.cells.toArray 27 (0, 0)) := by rw [hW2]; exact heap_new_at _ _ hq.symm
  have hs2 : W2.heap.size = q + 1 := by rw [hW2, hq]; simp
  have hq' := Lib.hid hq
  have hcy := Lib.hid (fun W (ho : Only (fun _ => False) W2 W) => cyv_of (ho.heap b0 (fun h => h)))
  obtain ⟨cv, hcv⟩ : ∃ cv, cv = c.val := ⟨_, rfl⟩
  have hlen := h0.len
  have hn9 := h0.n
  have hts := Lib.hid (fun W (ho : Only (fun _ => False) W2 W) => tasks_src (h0.C.new (hO2.trans' ho)).t)
  have hxl := Lib.hid (show (rowC tkV pl).length = c.ta.n * 7 from by rw [rowC_len tkV_len, hlen])
  have hx1 := Lib.hid (rowCone tkV_one pl)
  have hid := Lib.hid (show chg (fun _ t => t) pl = pl from by
    refine List.ext_getElem? (fun i => ?_)
    rw [chg_at]
    cases pl[i]? <;> rfl)
  obtain ⟨RW, hRW⟩ : ∃ R, R = rowC tkV pl := ⟨_, rfl⟩
  rw [← hRW] at hts hxl hx1
  have hsh0 := Lib.hid (fun W3 W p cap2 hh (hW : Win W 49 7 (.slice p c.ta.n cap2) hh c.ta.n RW) (hg : ∀ g, hh = some g → W3.heap.size ≤ g) (ho : Only (fun _ => False) W3 W) => show ShAt W3 (fun _ t => t) c pl p cap2 hh W from ⟨by rw [hid.out, ← hRW]; exact hW, hg, ho⟩)
  obtain ⟨Z, hZ⟩ : ∃ Z, Z = GrowB (pasB c d pl T) w := ⟨_, rfl⟩
  rw [← hZ]
  have hno := Lib.hid (fun W (ho : Only (fun _ => False) W2 W) (hb : n = c.ta.n → confZ c d (chg (thL T) pl) ≠ 0) => show Z (.returned (.bool false)) W from by
    rw [hZ]
    refine ⟨?_, hO2.trans' ho⟩
    unfold pasB admB
    by_cases h : T.length = c.ta.n
    · simp [hb (by omega)]
    · simp [h])
  obtain ⟨AV, hAV⟩ : ∃ b, b = admB c d (chg (thL T) pl) := ⟨_, rfl⟩
  have hyes := Lib.hid (fun W (ho : Only (fun _ => False) W2 W) (hb : n = c.ta.n) => show Z (.returned (.bool AV)) W from by
    rw [hZ]
    refine ⟨?_, hO2.trans' ho⟩
    unfold pasB
    rw [← hAV, decide_eq_true (show T.length = c.ta.n by omega), Bool.true_and])
  obtain ⟨V, hV⟩ : ∃ V, V = confZ c d (chg (thL T) pl) := ⟨_, rfl⟩
  rw [← hV] at hno
  have hte := Lib.hid (fun W3 W p cap2 hh (h : ShAt W3 (thK T n) c pl p cap2 hh W) (ho3 : Only (fun _ => False) W2 W3) (e : n = c.ta.n) => show Calls Tryz.prog 14 #[(shC c p cap2).val] W (GrowI V W) ∧ (V = 0 → ∀ W4, Only (fun _ => False) W W4 → Calls Tryz.prog 17 #[(shC c p cap2).val] W4 (GrowB AV W4)) from by
    have h' : ShAt W3 (thL T) c pl p cap2 hh W := h.congr (fun i t hi => by unfold thK thL thF; rw [if_pos (by omega)])
    rw [hV, hAV]
    exact ⟨(h'.tells (h0.new hO2) (ho3.trans' h'.only) (thF_keeps _) (fun _ _ => rfl) hS).1, fun hz W4 ho4 => ((h'.new ho4).tells (h0.new hO2) (ho3.trans' (h'.new ho4).only) (thF_keeps _) (fun _ _ => rfl) hS).2 hz⟩)
  have hTa := Lib.hid (fun W (ho : Only (fun _ => False) W2 W) k (hk : k < n) => show ∃ z b off, T[k]? = some z ∧ A = some ⟨b, off, none⟩ ∧ b < W.heap.size ∧ W.cell? ⟨b, off + k, none⟩ = some (.int .i64 z) from by
    obtain ⟨z, hz⟩ : ∃ z, T[k]? = some z := ⟨_, List.getElem?_eq_getElem (by omega)⟩
    obtain ⟨b, off, q1, q2, q3⟩ := (hT0.new (hO2.trans' ho)).at_ k z hz
    exact ⟨z, b, off, hz, q1, q2, q3⟩)
  have hth := Lib.hid (fun W3 W g off cap2 k z (h : ShAt W3 (thK T k) c pl (some ⟨g, off, none⟩) cap2 (some g) W) (hk : k < c.ta.n) (hz : T[k]? = some z) => show ShAt W3 (thK T (k + 1)) c pl (some ⟨g, off, none⟩) cap2 (some g) (W.setCell ⟨g, off + k * 7 + 1, none⟩ (.int .i64 z)) from by
    have hg : T.getD k 0 = z := by rw [List.getD_eq_getElem?_getD, hz]; rfl
    refine (h.put hlen hk (fun t => { t with th := z }) (.int .i64 z) (j := 1) (by omega) (fun _ _ => rfl)).congr (fun i t _ => ?_)
    unfold thK
    by_cases e : i = k
    · subst e
      rw [if_pos rfl, if_neg (Nat.lt_irrefl _), if_pos (Nat.lt_succ_self _), hg]
    · rw [if_neg e]
      by_cases e2 : i < k
      · rw [if_pos e2, if_pos (by omega)]
      · rw [if_neg e2, if_neg (by omega)])
  have hrow := Lib.hid (fun W3 W p cap2 hh k (h : ShAt W3 (thK T k) c pl p cap2 hh W) (hk : k < c.ta.n) => h.row (j := 1) hlen hk (by omega))
  have hsh := Lib.hid (fun W3 W p cap2 hh (hW : Win W 49 7 (.slice p c.ta.n cap2) hh c.ta.n RW) hg ho => show ShAt W3 (thK T 0) c pl p cap2 hh W from (hsh0.out W3 W p cap2 hh hW hg ho).congr (fun i t _ => by unfold thK; rw [if_neg (by omega)]))
  have hnew := Lib.hid (fun W3 W W' k p cap2 hh (h : ShAt W3 (thK T k) c pl p cap2 hh W) (ho : Only (fun _ => False) W W') => h.new ho)
  unfold shC at hte
  rw [← hcv]
  unfold ConfV.val at hcv
  subst hcv
  unfold CYv at hcy
  unfold ConfV.cells at hW2
  have hW2' := Lib.hid hW2
  have hs2' := Lib.hid hs2
  clear h0 hT0 hTn hq hO2 b0 hW2 hs2 hlen hRW hZ hAV hV hS hsh0 hid
  obtain ⟨c0, wy, h, mi, ⟨mA, mn, mc⟩, g, ⟨cA, cn, cc⟩, ⟨eA, en, ec⟩, ⟨tA, tn, tc⟩, ⟨lA, ln, lc⟩⟩ := c
  dsimp only at *
  obtain ⟨d0, d1, d2, d3, d4, d5, d6, d7, d8, d9, dl⟩ := hcy.out W2 (Only.refl _ _)
  unfold ConfV.val at hte
  dsimp only at hte
  go_enter Tryz.func28, Tryz.ntmps28
  go_upto_region 1 with fail
  rw [← hq'.out]
  rw [← hW2'.out]
  by_cases hnt : n = tn
  · subst hnt
    have hnn : ((n : Int) != (n : Int)) = false := by simp
    go_upto_region 4 with fail
    clear hnn d0 d1 d2 d3 d4 d5 d6 d7 d8 d9 dl
    obtain ⟨X, hX⟩ : ∃ X, X = W2.heap.size := ⟨_, rfl⟩
    obtain ⟨w3, hw3⟩ : ∃ W, W = W2.alloc (.cells #[.int .i64 c0, .int .i64 wy, .int .i64 h, .int .i64 mi, .slice mA mn mc, .int .i64 g, .slice cA cn cc, .slice eA en ec, .slice tA n tc, .slice lA ln lc] 27) := ⟨_, rfl⟩
    rw [← hw3, ← hX]
    have hX3 : w3.heap[X]? = some (.cells ([.int .i64 c0, .int .i64 wy, .int .i64 h, .int .i64 mi, .slice mA mn mc, .int .i64 g, .slice cA cn cc, .slice eA en ec, .slice tA n tc, .slice lA ln lc] : List Value).toArray 27 (0, 0)) := by rw [hw3, hX]; exact heap_new_at _ _ rfl
    have hO3 := Lib.hid (show Only (fun _ => False) W2 w3 from by rw [hw3]; exact (Only.refl _ _).alloc _)
    have hXs := Lib.hid (show X < w3.heap.size ∧ W2.heap.size ≤ X from ⟨row_lt hX3, by omega⟩)
    clear hw3 hX
    obtain ⟨d0, d1, d2, d3, d4, d5, d6, d7, d8, d9, dl⟩ := hcy.out w3 hO3.out
    have x8 := row_cell hX3 (i := 8) rfl
    have xf := row_free hX3 8
    have xl := row_lt hX3
    have hs3 := Lib.hid (hts.out (w3.alloc (.cells #[] 49)) (hO3.out.alloc _))
    have hX3' := Lib.hid hX3
    clear hX3 hts
    go_wp2_with (at_builtin; refine wpList_append_win rfl _ _ 25 rfl 49 ztask 7 72 Tryz.underlying25 info63 rfl (by decide) rfl (Win.empty (w3.alloc (.cells #[] 49)) 49 7 (some ⟨w3.heap.size, 0, none⟩)) tA n tc rfl RW hxl.out hs3.out hx1.out (by unfold maxLen; omega) (by omega) ?_; intro v' w4 h4 hW4 hO4 hh4; rw [Nat.zero_add, List.nil_append] at hW4; obtain ⟨pN, cN, hvN, -, -⟩ := hW4.out.form; subst hvN; have hO4' : Only (fun _ => False) w3 w4 := ((Only.refl (fun _ => False) w3).alloc (.cells #[] 49)).trans hO4.out (fun _ _ e => by cases e); have hX4 := hO4'.heap hX3'.out (fun h => h); have x8 := row_cell hX4 (i := 8) rfl; have xf := row_free hX4 8; have xl := row_lt hX4)
    go_upto_region 5 with fail
    obtain ⟨w5, hw5⟩ : ∃ W, W = w4.setCell ⟨X, 8, none⟩ (.slice pN n cN) := ⟨_, rfl⟩
    rw [← hw5]
    have hX5 := Lib.hid (show w5.heap[X]? = some (.cells ([.int .i64 c0, .int .i64 wy, .int .i64 h, .int .i64 mi, .slice mA mn mc, .int .i64 g, .slice cA cn cc, .slice eA en ec, .slice pN n cN, .slice lA ln lc] : List Value).toArray 27 (0, 0)) from by rw [hw5]; exact row_set hX4 8 _)
    have hg4 := Lib.hid (show ∀ g, h4 = some g → w3.heap.size ≤ g from fun g hg => by
      rcases hh4.out with e | ⟨g', e, hg'⟩
      · rw [e] at hg; cases hg
      · rw [e] at hg; cases hg; exact Nat.le_trans (Only.size (S := fun _ => False) ((Only.refl _ w3).alloc _)) hg')
    have hF5 := Lib.hid ((hsh.out W2 w4 pN cN h4 hW4.out (fun g hg => by have := hg4.out g hg; have := hXs.out; omega) (hO3.out.trans' hO4')).kept1 (show Only (fun k => k = X) w4 w5 from by rw [hw5]; exact (Only.refl (fun k => k = X) w4).setCell (p := ⟨X, 8, none⟩) (fun _ => rfl) _) (fun g hg => by have := hg4.out g hg; have := hXs.out; omega) hXs.out.2)
    clear hw5 hX4 x8 xf xl hW4 hO4 hO4' hh4 d0 d1 d2 d3 d4 d5 d6 d7 d8 d9 dl hs3 hX3' hsh hxl hx1
    go_wp2
    go_loopw [6, 21] (fun _ i wr => ∃ k : Nat, i = .int .i64 k ∧ k ≤ n ∧ Hid (ShAt W2 (thK T k) _ pl pN cN h4 wr) ∧ Hid (wr.heap[X]? = some (.cells ([.int .i64 c0, .int .i64 wy, .int .i64 h, .int .i64 mi, .slice mA mn mc, .int .i64 g, .slice cA cn cc, .slice eA en ec, .slice pN n cN, .slice lA ln lc] : List Value).toArray 27 (0, 0)))) (fun _ i _ => n - (intOf i).toNat)
    case atStart => exact ⟨0, rfl, Nat.zero_le _, hF5, hX5⟩
    case round =>
      obtain ⟨k, rfl, hk, hFk, hXk⟩ := hrel
      obtain ⟨ws, hws⟩ : ∃ ws : World, ws = wr := ⟨_, rfl⟩
      subst hws
      by_cases hkn : k < n
      · have hkn' : (k : Int) < (n : Int) := by omega
        obtain ⟨z, b, off, hz, rfl, hb, hc⟩ := hTa.out ws hFk.out.only k hkn
        obtain ⟨g2, off2, u2, htb, hA2, hg2, hgl, hcu, hfz⟩ := hrow.out _ _ _ _ _ _ hFk.out hkn
        subst htb hA2
        have hF3 := Lib.hid (fun nq => hth.out W2 (ws.drewN nq) g2 off2 cN k z (hnew.out _ _ _ _ _ _ _ hFk.out ((Only.refl _ ws).drewN nq)) hkn hz)
        have hgX := hg4.out g2 rfl
        have hX5 := Lib.hid (fun nq => show (((ws.drewN nq).setCell ⟨g2, off2 + k * 7 + 1, none⟩ (.int .i64 z)).heap[X]? = some (.cells ([.int .i64 c0, .int .i64 wy, .int .i64 h, .int .i64 mi, .slice mA mn mc, .int .i64 g, .slice cA cn cc, .slice eA en ec, .slice (some ⟨g2, off2, none⟩) n cN, .slice lA ln lc] : List Value).toArray 27 (0, 0))) from heap_kept_set (w := ws.drewN nq) hXk.out (p := ⟨g2, off2 + k * 7 + 1, none⟩) (by show X ≠ g2; have := hXs.out; omega) (.int .i64 z))
        have x8 := row_cell hXk.out (i := 8) rfl
        have xl := row_lt hXk.out
        have hf := hfz (off2 + k * 7 + 1)
        clear hz hfz hgX hg2
        go_upto_region 8 with fail
        refine wp_region_quiet_tail_lit 9 (by kernel_rfl) (by kernel_rfl) ?_
        simp only [List.take_succ_cons, List.take_zero, List.drop_succ_cons, List.drop_zero]
        repeat (go_big_quiet_step (fail))
        refine wpQuiet_nil ?_
        rintro _ ⟨nq, rfl⟩
        go_wp2
        go_roundw
        case rel => exact ⟨k + 1, by go_num, by omega, Lib.hid (hF3.out nq), Lib.hid (hX5.out nq)⟩
        case measure => simp [intOf]; omega
      · obtain rfl : k = n := by omega
        have hkn' : ¬ (k : Int) < (k : Int) := by omega
        obtain ⟨q1, q2⟩ := hte.out _ _ _ _ _ hFk.out (Only.refl _ _) (by trivial)
        have q1' := Lib.hid q1
        have q2' := Lib.hid q2
        clear q1 q2
        have x0 := row_cell hXk.out (i := 0) rfl
        have x1 := row_cell hXk.out (i := 1) rfl
        have x2 := row_cell hXk.out (i := 2) rfl
        have x3 := row_cell hXk.out (i := 3) rfl
        have x4 := row_cell hXk.out (i := 4) rfl
        have x5 := row_cell hXk.out (i := 5) rfl
        have x6 := row_cell hXk.out (i := 6) rfl
        have x7 := row_cell hXk.out (i := 7) rfl
        have x8 := row_cell hXk.out (i := 8) rfl
        have x9 := row_cell hXk.out (i := 9) rfl
        have xl := row_lt hXk.out
        go_wp2_with fail
        refine q1'.out.mono ?_
        rintro e w7 ⟨rfl, ho⟩
        have hO7 := Lib.hid ho
        have hX7 := Lib.hid (ho.heap hXk.out (fun h => h))
        have hOs := Lib.hid hFk.out.only
        clear ho x0 x1 x2 x3 x4 x5 x6 x7 x8 x9 xl
        by_cases hv : V = 0
        · have hVe : (V == 0) = true := by simp [hv]
          have q3 := Lib.hid (q2'.out hv w7 hO7.out)
          clear hv q2' q1'
          have x0 := row_cell hX7.out (i := 0) rfl
          have x1 := row_cell hX7.out (i := 1) rfl
          have x2 := row_cell hX7.out (i := 2) rfl
          have x3 := row_cell hX7.out (i := 3) rfl
          have x4 := row_cell hX7.out (i := 4) rfl
          have x5 := row_cell hX7.out (i := 5) rfl
          have x6 := row_cell hX7.out (i := 6) rfl
          have x7 := row_cell hX7.out (i := 7) rfl
          have x8 := row_cell hX7.out (i := 8) rfl
          have x9 := row_cell hX7.out (i := 9) rfl
          have xl := row_lt hX7.out
          go_wp2_with fail
          refine q3.out.mono ?_
          rintro e w8 ⟨rfl, ho⟩
          have hf := Lib.hid (hyes.out w8 (hOs.out.trans' (hO7.out.trans' ho)) (by trivial))
          clear ho x0 x1 x2 x3 x4 x5 x6 x7 x8 x9 xl
          go_wp2
          exact hf.out
        · have hVe : (V == 0) = false := by simp [hv]
          have hf := Lib.hid (hno.out w7 (hOs.out.trans' hO7.out) (fun _ => hv))
          clear hv q2' q1'
          go_wp2
          exact hf.out
  · have hnn : ((n : Int) != (tn : Int)) = true := by simp; omega
    have hf := Lib.hid (hno.out W2 (Only.refl _ _) (fun e => absurd e hnt))
    clear hnt
    go_wp2
    exact hf.out
end Twn
end Go.Proofs.YtlbinlhaejhobaaGreatDoor
