/- section.Longest. -/
import Derived.Test.YtdoimkmhincmmaaLvs
namespace Go.Proofs.Ytdoimkmhincmmaa
namespace Sct
open Go Go.RowKit Lin Lck Cst

/-- The longest so far, and the sum. -/
def lonU (LV : Nat → Int) (co : Nat → Int) (lev : Int) : Nat → Int × Int
  | 0 => (0, 0)
  | k + 1 => if max (LV k) (LV (k + 1)) < lev then ((lonU LV co lev k).1, 0) else (max (lonU LV co lev k).1 ((lonU LV co lev k).2 + co k), (lonU LV co lev k).2 + co k)
theorem lonU_bound {LV co : Nat → Int} {lev : Int} (h0 : ∀ k, 0 ≤ co k ∧ co k ≤ 1073741824) : ∀ k : Nat, (0 ≤ (lonU LV co lev k).1 ∧ (lonU LV co lev k).1 ≤ 1073741824 * (k : Int)) ∧ (0 ≤ (lonU LV co lev k).2 ∧ (lonU LV co lev k).2 ≤ 1073741824 * (k : Int))
  | 0 => by simp [lonU]
  | k + 1 => by
    have ih := lonU_bound (LV := LV) (lev := lev) h0 k
    have hk := h0 k
    unfold lonU
    split
    · simp only; omega
    · simp only; omega
def costK (l : List Opn) (h mi : Int) (k : Nat) : Int := ofZ (l.getD k ⟨0, 0, 0⟩) h mi false
theorem costK_at {l : List Opn} {h mi : Int} {k : Nat} {o : Opn} (ho : l[k]? = some o) : costK l h mi k = ofZ o h mi false := by
  unfold costK
  rw [List.getD_eq_getElem?_getD, ho]
  rfl
theorem costK_le (l : List Opn) (h mi : Int) (k : Nat) : 0 ≤ costK l h mi k ∧ costK l h mi k ≤ 1073741824 := ofZ_le _ _ _ _
def lonZ (th : Int) (z : Nat → Int) (n : Nat) (l : List Opn) (h mi lev : Int) : Int := (lonU (levK th z n l) (costK l h mi) lev l.length).1

set_option maxRecDepth 100000 in
set_option maxHeartbeats 4000000 in
theorem longest_any {w : World} {c : ConfV} {d : ConfL} {pl : Tks} (hC : ConfIn w c d pl) (hen : c.ce.n ≤ 4096) {i : Nat} {t : TaskV} {l : List Opn} (hi : pl[i]? = some (t, l)) (hl9 : l.length ≤ 1000) (htn : c.ta.n ≤ 1000000) (lev : Int) :
    Calls Try.prog 54 #[c.val, .int .i64 (i : Int), .int .i64 lev] w (GrowI (lonZ t.th (ceZ d.ce) c.ce.n l c.h c.mi lev) w) := by
  obtain ⟨V, hV⟩ : ∃ V, V = lonZ t.th (ceZ d.ce) c.ce.n l c.h c.mi lev := ⟨_, rfl⟩
  rw [← hV]
  have hV' := Lib.hid hV
  clear hV
  have hO := (Only.refl (fun _ => False) w).alloc (.cells c.cells.toArray 27)
  have hB := heap_new_at w (.cells c.cells.toArray 27) rfl
  obtain ⟨W1, hW1⟩ : ∃ W1, W1 = w.alloc (.cells c.cells.toArray 27) := ⟨_, rfl⟩
  rw [← hW1] at hB hO
  have hB' := Lib.hid hB
  have hO' := Lib.hid hO
  have hitn : i < c.ta.n := by
    have h1 := hC.t.len
    unfold Tks.ts at h1
    rw [List.length_map] at h1
    have := (List.getElem?_eq_some_iff.1 hi).1
    omega
  have hlv := Lib.hid (fun W (h : Only (fun _ => False) w W) => levels_any (hC.new h) hen hi hl9 htn)
  have hrow := Lib.hid (fun W (h : Only (fun _ => False) w W) => ((hC.new h).p i t l hi).1)
  have hln : l.length = t.o.n := (hC.p i t l hi).2.1
  have hta := Lib.hid (fun W (h : Only (fun _ => False) w W) => (hC.new h).t.at_ i t (ts_some hi))
  obtain ⟨q, hqq⟩ : ∃ q, q = w.heap.size := ⟨_, rfl⟩
  have hqq' := Lib.hid hqq
  rw [← hqq] at hB'
  clear hO hB hqq hC hi
  rw [show c.val = .agg #[.int .i64 c.s, .int .i64 c.wy, .int .i64 c.h, .int .i64 c.mi, .slice c.mb.A c.mb.n c.mb.cap, .int .i64 c.g, .slice c.cn.A c.cn.n c.cn.cap, .slice c.ce.A c.ce.n c.ce.cap, .slice c.ta.A c.ta.n c.ta.cap, .slice c.li.A c.li.n c.li.cap] from rfl] at hlv ⊢
  unfold ConfV.cells at hW1 hB'
  obtain ⟨s, wy, h, mi, ⟨mA, mn, mc⟩, g, ⟨cA, cn, cc⟩, ⟨eA, en, ec⟩, ⟨tA, tn, tc⟩, ⟨lA, ln, lc⟩⟩ := c
  dsimp only at *
  have hW1' := Lib.hid hW1
  clear hW1
  obtain ⟨m, hm⟩ : ∃ m, m = l.length := ⟨_, rfl⟩
  have hm' := Lib.hid hm
  have hmn : m = t.o.n := by omega
  obtain ⟨LV, hLV⟩ : ∃ LV, LV = levK t.th (ceZ d.ce) en l := ⟨_, rfl⟩
  obtain ⟨co, hco⟩ : ∃ co, co = costK l h mi := ⟨_, rfl⟩
  have hVV := Lib.hid (show V = (lonU LV co lev m).1 by rw [hV'.out, hLV, hco, hm]; rfl)
  have hLVs := Lib.hid (fun (G : Nat) (W w' : World) (e : Ending) (hE : LvsEnd t.th (ceZ d.ce) en l W e w') => show ∃ G, e = .returned (.slice (some ⟨G, 0, none⟩) m m) ∧ (∀ k, k < m → w'.cell? ⟨G, k * 2, none⟩ = some (.int .i64 (LV k)) ∧ w'.cell? ⟨G, k * 2 + 1, none⟩ = some (.int .i64 (LV (k + 1)))) ∧ G < w'.heap.size ∧ Only (fun _ => False) W w' from by
    obtain ⟨G, h1, _, h3, h4⟩ := hE
    rw [← hm] at h1 h3
    refine ⟨G, h1, fun k hk => ?_, row_lt h3, h4⟩
    obtain ⟨a1, a2⟩ := pairs_at (th := t.th) (z := ceZ d.ce) (n := en) (l := l) hk
    rw [hLV]
    exact ⟨row_cell h3 a1, row_cell h3 a2⟩)
  have hcb := Lib.hid (fun k => show 0 ≤ co k ∧ co k ≤ 1073741824 from by rw [hco]; exact costK_le _ _ _ _)
  have hca := Lib.hid (fun k o (ho : l[k]? = some o) => show co k = ofZ o h mi false from by rw [hco]; exact costK_at ho)
  have hm9 : m ≤ 1000 := by omega
  have e0 := row_cell hB'.out (i := 0) rfl
  have e1 := row_cell hB'.out (i := 1) rfl
  have e2 := row_cell hB'.out (i := 2) rfl
  have e3 := row_cell hB'.out (i := 3) rfl
  have e4 := row_cell hB'.out (i := 4) rfl
  have e5 := row_cell hB'.out (i := 5) rfl
  have e6 := row_cell hB'.out (i := 6) rfl
  have e7 := row_cell hB'.out (i := 7) rfl
  have e8 := row_cell hB'.out (i := 8) rfl
  have e9 := row_cell hB'.out (i := 9) rfl
  have hqlt := row_lt hB'.out
  have hi2 : (i : Int) < (tn : Int) := by omega
  have hmn' := Lib.hid hmn
  clear hm hLV hco hV' hln hmn
  go_enter Try.func54, Try.ntmps54
  go_wp2_with fail
  rw [← hqq'.out, ← hW1'.out]
  go_wp2_with fail
  refine (hlv.out _ hO'.out).mono ?_
  intro ee w3 hE
  obtain ⟨G, rfl, hcells, hGl, hO3⟩ := hLVs.out 0 _ _ _ hE
  have hcells' := Lib.hid hcells
  have hGl' := Lib.hid hGl
  have hO3' := Lib.hid (hO'.out.trans' hO3)
  have hB3 := Lib.hid (hO3.heap hB'.out (fun h => h))
  clear hE hcells hGl hO3 e0 e1 e2 e3 e4 e5 e6 e7 e8 e9 hqlt hLVs hlv hB' hO' hW1'
  go_wp2
  go_loopw [7, 8, 15] (fun a b i' wr => ∃ k : Nat, k ≤ m ∧ i' = .int .i64 k ∧ a = .int .i64 (lonU LV co lev k).1 ∧ b = .int .i64 (lonU LV co lev k).2 ∧ Only (fun _ => False) w3 wr) (fun _ _ i' _ => m - (intOf i').toNat)
  case atStart => exact ⟨0, Nat.zero_le _, rfl, rfl, rfl, Only.refl _ _⟩
  case round =>
    obtain ⟨k, hk, rfl, rfl, rfl, hO⟩ := hrel
    obtain ⟨ws, hws⟩ : ∃ ws : World, ws = wr := ⟨_, rfl⟩
    subst hws
    have hOs := Lib.hid hO
    have hOw := Lib.hid (hO3'.out.trans' hO)
    have hBs := Lib.hid (hO.heap hB3.out (fun h => h))
    clear hO
    obtain ⟨⟨b1, b2⟩, b3, b4⟩ := lonU_bound (LV := LV) (lev := lev) hcb.out k
    have hsu := Lib.hid (show lonU LV co lev (k + 1) = _ from rfl)
    by_cases hkm : k < m
    · have hkm' : (k : Int) < (m : Int) := by omega
      obtain ⟨g0, g1⟩ := hcells'.out k hkm
      replace g0 := hOs.out.cell g0 (fun h => h)
      replace g1 := hOs.out.cell g1 (fun h => h)
      have hGs := Nat.lt_of_lt_of_le hGl'.out hOs.out.size
      obtain ⟨P, hP⟩ : ∃ P, P = lonU LV co lev (k + 1) := ⟨_, rfl⟩
      have hP' : P = if max (LV k) (LV (k + 1)) < lev then ((lonU LV co lev k).1, 0) else (max (lonU LV co lev k).1 ((lonU LV co lev k).2 + co k), (lonU LV co lev k).2 + co k) := by rw [hP]; rfl
      obtain ⟨⟨x, y⟩, hQ⟩ : ∃ Q, Q = lonU LV co lev k := ⟨_, rfl⟩
      rw [← hQ] at hP' b1 b2 b3 b4 ⊢
      obtain ⟨u0, hu0⟩ : ∃ u0, u0 = LV k := ⟨_, rfl⟩
      obtain ⟨u1, hu1⟩ : ∃ u1, u1 = LV (k + 1) := ⟨_, rfl⟩
      rw [← hu0] at g0 hP'
      rw [← hu1] at g1 hP'
      have hPP := Lib.hid hP
      dsimp only at b1 b2 b3 b4 hP' ⊢
      have hOa := Lib.hid ((Only.refl (fun _ => False) ws).alloc (.cells #[.int .i64 u0, .int .i64 u1] 84))
      clear hP hQ hu0 hu1
      by_cases hlt : max u0 u1 < lev
      · rw [if_pos hlt] at hP'
        have hP2 := Lib.hid hP'
        clear hP'
        go_wp2
        go_roundw
        case rel => exact ⟨k + 1, by omega, by go_num, by rw [← hPP.out, hP2.out], by rw [← hPP.out, hP2.out], hOs.out.trans' hOa.out⟩
        case measure => simp [intOf]; omega
      · rw [if_neg hlt] at hP'
        have hP2 := Lib.hid hP'
        obtain ⟨o, ho⟩ : ∃ o, l[k]? = some o := ⟨_, List.getElem?_eq_getElem (by have := hm'.out; omega)⟩
        have hck := hca.out k o ho
        have hcb2 := hcb.out k
        obtain ⟨C, hCC⟩ : ∃ C, C = co k := ⟨_, rfl⟩
        rw [← hCC] at hP2 hck hcb2
        obtain ⟨hc1, hc2⟩ := hcb2
        have hof := Lib.hid (fun W => of_any o s wy h mi false W)
        rw [← hck] at hof
        unfold Opn.val at hof
        have hop := Lib.hid (fun W (h : Only (fun _ => False) ws W) => opn_row (hrow.out _ (hOw.out.trans' h)) ho)
        have htk := Lib.hid (fun W (h : Only (fun _ => False) ws W) => hta.out _ (hOw.out.trans' h))
        obtain ⟨tb, toff, htA, htb, htC⟩ := htk.out ws (Only.refl _ _)
        subst htA
        obtain ⟨vb, voff, hvA, hvb, d0, d1, d2⟩ := hop.out ws (Only.refl _ _)
        have hkn : (k : Int) < (t.o.n : Int) := by have := hmn'.out; omega
        obtain ⟨ok, oa, ob⟩ := o
        dsimp only at d0 d1 d2 hof
        have hkeep := Lib.hid (fun W0 (h0 : Only (fun _ => False) ws W0) => show W0.cell? ⟨q, 8, none⟩ = some (.slice (some ⟨tb, toff, none⟩) tn tc) ∧ W0.cell? ⟨tb, toff + i * 7 + 6, none⟩ = some (.slice t.o.A t.o.n t.o.cap) ∧ W0.cell? ⟨vb, voff + k * 3, none⟩ = some (.int .i64 ok) ∧ W0.cell? ⟨vb, voff + k * 3 + 1, none⟩ = some (.int .i64 oa) ∧ W0.cell? ⟨vb, voff + k * 3 + 2, none⟩ = some (.int .i64 ob) ∧ W0.cell? ⟨q, 0, none⟩ = some (.int .i64 s) ∧ W0.cell? ⟨q, 1, none⟩ = some (.int .i64 wy) ∧ W0.cell? ⟨q, 2, none⟩ = some (.int .i64 h) ∧ W0.cell? ⟨q, 3, none⟩ = some (.int .i64 mi) ∧ q < W0.heap.size ∧ tb < W0.heap.size ∧ vb < W0.heap.size from by
          have z := h0.heap hBs.out (fun h => h)
          exact ⟨row_cell z (i := 8) rfl, h0.cell htC.c6 (fun h => h), h0.cell d0 (fun h => h), h0.cell d1 (fun h => h), h0.cell d2 (fun h => h), row_cell z (i := 0) rfl, row_cell z (i := 1) rfl, row_cell z (i := 2) rfl, row_cell z (i := 3) rfl, row_lt z, Nat.lt_of_lt_of_le htb h0.size, Nat.lt_of_lt_of_le hvb h0.size⟩)
        rw [hvA] at hkeep
        clear hP' ho hCC hck htb htC d0 d1 d2 hvb hop htk
        go_upto_region 7 with fail
        generalize hwp : ws.alloc (.cells #[.int .i64 u0, .int .i64 u1] 84) = wp at hOa
        have hkeep2 := Lib.hid (fun W0 (h0 : Only (fun _ => False) wp W0) => hkeep.out W0 (hOa.out.trans' h0))
        clear hwp hkeep g0 g1 hGs hlt
        generalize (if u0 < u1 then u1 else u0) = mx
        have hy1 : y ≤ 2000000000000 := by omega
        have hy0 : 0 ≤ y := b3
        have hC1 : C ≤ 1073741824 := hc2
        have hC0 : 0 ≤ C := hc1
        have hwr : IntKind.i64.wrap (y + C) = y + C := IntWalk.i64_in _ (by omega)
        obtain ⟨f8, f6, d0, d1, d2, f0, f1, f2, f3, fq, ft, fv⟩ := hkeep2.out _ (Only.refl _ _)
        go_region_held3 (fun W0 => W0.cell? ⟨q, 8, none⟩ = some (.slice (some ⟨tb, toff, none⟩) tn tc) ∧ W0.cell? ⟨tb, toff + i * 7 + 6, none⟩ = some (.slice (some ⟨vb, voff, none⟩) t.o.n t.o.cap) ∧ W0.cell? ⟨vb, voff + k * 3, none⟩ = some (.int .i64 ok) ∧ W0.cell? ⟨vb, voff + k * 3 + 1, none⟩ = some (.int .i64 oa) ∧ W0.cell? ⟨vb, voff + k * 3 + 2, none⟩ = some (.int .i64 ob) ∧ W0.cell? ⟨q, 0, none⟩ = some (.int .i64 s) ∧ W0.cell? ⟨q, 1, none⟩ = some (.int .i64 wy) ∧ W0.cell? ⟨q, 2, none⟩ = some (.int .i64 h) ∧ W0.cell? ⟨q, 3, none⟩ = some (.int .i64 mi) ∧ q < W0.heap.size ∧ tb < W0.heap.size ∧ vb < W0.heap.size)
          (exact hkeep2.out _ (by repeat (first | assumption | exact Only.refl _ _ | apply Only.drew)))
          (first
            | (go_at_call 68; (with_reducible refine (hof.out _).mono ?_); rintro _ w4 ⟨rfl, ho4⟩; have hO4 : Only (fun _ => False) wp w4 := Only.trans' (by repeat (first | assumption | exact Only.refl _ _ | apply Only.drew)) ho4; clear ho4))
        all_goals
          go_wp2
          go_roundw
          case rel => exact ⟨k + 1, by omega, by go_num, by rw [← hPP.out, hP2.out]; dsimp only; congr 1; split <;> omega, by rw [← hPP.out, hP2.out], hOs.out.trans' (hOa.out.trans' hO4)⟩
          case measure => simp [intOf]; omega
    · obtain rfl : k = m := by omega
      have hkm' : ¬ (k : Int) < (k : Int) := by omega
      rw [← hVV.out]
      have hend := Lib.hid (show GrowI V w (.returned (.int .i64 V)) ws from ⟨rfl, hOw.out⟩)
      go_wp2
      go_ret
      exact hend.out
end Sct
end Go.Proofs.Ytdoimkmhincmmaa
