/- twin.Config, walked. Written by mktw2.py. -/
import Derived.Test.YtlbinlhaejhobaaGreatDoorTw2
namespace Go.Proofs.YtlbinlhaejhobaaGreatDoor
namespace Twn
open Go Go.RowKit Krn Asn Pre

set_option maxRecDepth 100000 in
set_option maxHeartbeats 4000000 in
theorem config_any {w : World} {c : ConfV} {d : ConfL} {pl : Tks} (hC : ConfIn w c d pl) (hA : ConfAt w c d pl) (hn : c.ta.n ≤ 1000) (hol : ∀ (i : Nat) t l, pl[i]? = some (t, l) → l.length ≤ 1000) :
    Calls Tryz.prog 60 #[c.val] w (CfEnd c d pl w) := by
  have hlen := ts_len hC
  obtain ⟨q, hq⟩ : ∃ q, q = w.heap.size := ⟨_, rfl⟩
  obtain ⟨W1, hW1⟩ : ∃ W1, W1 = w.alloc (.cells c.cells.toArray 27) := ⟨_, rfl⟩
  have hO1 : Only (fun _ => False) w W1 := by rw [hW1]; exact (Only.refl _ w).alloc _
  have b1 : W1.heap[q]? = some (.cells c.cells.toArray 27 (0, 0)) := by rw [hW1]; exact heap_new_at _ _ hq.symm
  have hs1 : W1.heap.size = q + 1 := by rw [hW1, hq]; simp
  obtain ⟨W2, hW2⟩ : ∃ W2, W2 = W1.alloc (.cells #[.int .i64 0, .int .i64 0, .int .i64 0, .int .i64 0, .slice none 0 0, .int .i64 0, .slice none 0 0, .slice none 0 0, .slice none 0 0, .slice none 0 0] 27) := ⟨_, rfl⟩
  have hO12 : Only (fun _ => False) W1 W2 := by rw [hW2]; exact (Only.refl _ W1).alloc _
  have hO2 : Only (fun _ => False) w W2 := hO1.trans' hO12
  have b2 : W2.heap[q]? = some (.cells c.cells.toArray 27 (0, 0)) := hO12.heap b1 (fun h => h)
  have r2 : W2.heap[q + 1]? = some (.cells ([.int .i64 0, .int .i64 0, .int .i64 0, .int .i64 0, .slice none 0 0, .int .i64 0, .slice none 0 0, .slice none 0 0, .slice none 0 0, .slice none 0 0] : List Value).toArray 27 (0, 0)) := by rw [hW2]; exact heap_new_at _ _ hs1
  have hs2 : W2.heap.size = q + 2 := by rw [hW2]; simp [hs1]
  have hOw := Lib.hid (fun W (ho : Only (fun k => k = q ∨ k = q + 1) W2 W) => show Only (fun _ => False) w W from hO2.trans ho (fun x hx e => by omega))
  have hs := hA.o.s
  have kmb := Lib.hid (fun W (ho : Only (fun k => k = q ∨ k = q + 1) W2 W) => iclone_at (hC.new (hOw.out W ho)).mb (by omega))
  have kcn := Lib.hid (fun W (ho : Only (fun k => k = q ∨ k = q + 1) W2 W) => iclone_at (hC.new (hOw.out W ho)).cn (by omega))
  have kce := Lib.hid (fun W (ho : Only (fun k => k = q ∨ k = q + 1) W2 W) => iclone_at (hC.new (hOw.out W ho)).ce (by omega))
  have kli := Lib.hid (fun W (ho : Only (fun k => k = q ∨ k = q + 1) W2 W) => iclone_at (hC.new (hOw.out W ho)).li (by omega))
  have kta := Lib.hid (fun W (ho : Only (fun k => k = q ∨ k = q + 1) W2 W) => tasks_any (x := c.ta) (hC.new (hOw.out W ho)).t (hA.new (hOw.out W ho)).p (by omega) hol)
  have hrt := Lib.hid (fun W e W' (ho : Only (fun k => k = q ∨ k = q + 1) W2 W) (h : TasksEnd W pl e W') => show ∃ p cap us tb tp, e = .returned (.slice p c.ta.n cap) ∧ Only (fun _ => False) W W' ∧ ∀ W3, Only (fun k => k = q ∨ k = q + 1) W' W3 → TwAt w (fun _ t => t) pl us (.slice p c.ta.n cap) tb tp W3 from by
    obtain ⟨v, tb, us, tp, rfl, hR⟩ := h
    obtain ⟨p, cap, rfl, -, -⟩ := hR.win.form
    rw [hlen]
    refine ⟨p, cap, us, tb, tp, rfl, hR.only, fun W3 h3 => ?_⟩
    have hz : W2.heap.size ≤ W.heap.size := ho.size
    have h1 := hR.fb
    have h2 := hR.fp
    have ht := (hR.tw).from (hOw.out W ho)
    rw [hlen] at ht
    exact ht.kept h3 (fun g hg => by have := h1 g hg; omega) (fun g hg => by have := (h2 g hg).1; omega) (fun k hk => by omega))
  obtain ⟨Z, hZ⟩ : ∃ Z, Z = CfEnd c d pl w := ⟨_, rfl⟩
  rw [← hZ]
  have hfin := Lib.hid (fun W (p1 p2 p3 p4 p5 : Option Addr) (e1 e2 e3 e4 e5 : Nat) (h1 h2 h3 h5 : Option Nat) us tb tp (m1 : Win W 3 1 (.slice p1 c.mb.n e1) h1 c.mb.n (icells d.mb)) (m2 : Win W 3 1 (.slice p2 c.cn.n e2) h2 c.cn.n (icells d.cn)) (m3 : Win W 3 1 (.slice p3 c.ce.n e3) h3 c.ce.n (icells d.ce)) (m5 : Win W 3 1 (.slice p5 c.li.n e5) h5 c.li.n (icells d.li)) (m4 : TwAt w (fun _ t => t) pl us (.slice p4 c.ta.n e4) tb tp W) =>
    show Z (.returned (.agg #[.int .i64 c.s, .int .i64 c.wy, .int .i64 c.h, .int .i64 c.mi, .slice p1 c.mb.n e1, .int .i64 c.g, .slice p2 c.cn.n e2, .slice p3 c.ce.n e3, .slice p4 c.ta.n e4, .slice p5 c.li.n e5])) W from by
      rw [hZ]
      exact ⟨⟨c.s, c.wy, c.h, c.mi, ⟨p1, c.mb.n, e1⟩, c.g, ⟨p2, c.cn.n, e2⟩, ⟨p3, c.ce.n, e3⟩, ⟨p4, c.ta.n, e4⟩, ⟨p5, c.li.n, e5⟩⟩, us, tb, tp, rfl, rfl, ⟨h1, m1⟩, ⟨h2, m2⟩, ⟨h3, m3⟩, ⟨h5, m5⟩, m4⟩)
  unfold ConfV.cells at hW1 b2
  unfold ConfV.val
  have hq' := Lib.hid hq
  have hW1' := Lib.hid hW1
  have hW2' := Lib.hid hW2
  have hs1' := Lib.hid hs1
  have hs2' := Lib.hid hs2
  clear hC hA hn hol hlen hq hW1 hO1 b1 hs1 hW2 hO12 hO2 hs2 hs hZ
  obtain ⟨c0, wy, h, mi, ⟨mA, mn, mc⟩, g, ⟨cA, cn, cc⟩, ⟨eA, en, ec⟩, ⟨tA, tn, tc⟩, ⟨lA, ln, lc⟩⟩ := c
  dsimp only at *
  go_enter Tryz.func60, Tryz.ntmps60
  go_upto_region 1 with fail
  rw [← hq'.out]
  rw [← hW1'.out]
  rw [← hW2'.out]
  have hO := Lib.hid (Only.refl (fun k => k = q ∨ k = q + 1) W2)
  have x0 := row_cell b2 (i := 4) rfl
  have xl := row_lt b2
  go_wp2_with fail
  refine (kmb.out W2 hO.out).mono ?_
  rintro e w3 ⟨v, h1, rfl, hw, hf, ho⟩
  obtain ⟨p1, e1, rfl, -, -⟩ := hw.form
  have m1 := Lib.hid (fun W (hq9 : Only (fun k => k = q ∨ k = q + 1) w3 W) => hw.kept hq9 (fun k hk e => by have := hf k hk; have := hs2'.out; have := hO.out.size; omega))
  have b1a : w3.heap[q]? = some (.cells ([.int .i64 c0, .int .i64 wy, .int .i64 h, .int .i64 mi, .slice mA mn mc, .int .i64 g, .slice cA cn cc, .slice eA en ec, .slice tA tn tc, .slice lA ln lc] : List Value).toArray 27 (0, 0)) := ho.heap b2 (fun h => h)
  have r1a := ho.heap r2 (fun h => h)
  have hoS := Lib.hid (ho.mono (T := fun k => k = q ∨ k = q + 1) (fun _ _ h => h.elim))
  have hOa := Lib.hid (hO.out.trans' hoS.out)
  clear x0 xl hO hw hf ho
  have x0 := row_cell b1a (i := 4) rfl
  have x1 := row_free b1a 4
  have xl := row_lt b1a
  go_upto_region 2 with fail
  obtain ⟨w4, hw4⟩ : ∃ W, W = w3.setCell ⟨q, 4, none⟩ (.slice p1 mn e1) := ⟨_, rfl⟩
  rw [← hw4]
  have b1b : w4.heap[q]? = some (.cells ([.int .i64 c0, .int .i64 wy, .int .i64 h, .int .i64 mi, .slice p1 mn e1, .int .i64 g, .slice cA cn cc, .slice eA en ec, .slice tA tn tc, .slice lA ln lc] : List Value).toArray 27 (0, 0)) := by rw [hw4]; exact row_set b1a 4 _
  have r1b := (show Only (fun k => k = q) w3 w4 from by rw [hw4]; exact (Only.refl (fun k => k = q) _).setCell (p := ⟨q, 4, none⟩) (fun _ => rfl) _).heap r1a (by omega)
  have ho4 : Only (fun k => k = q ∨ k = q + 1) w3 w4 := by rw [hw4]; exact (Only.refl (fun k => k = q ∨ k = q + 1) _).setCell (p := ⟨q, 4, none⟩) (fun _ => .inl rfl) _
  have hO := Lib.hid (hOa.out.trans' ho4)
  replace m1 := Lib.hid (fun W (hx : Only (fun k => k = q ∨ k = q + 1) w4 W) => m1.out W (ho4.trans' hx))
  clear x0 x1 xl hOa hoS ho4 hw4 b1a r1a
  have x0 := row_cell b1b (i := 6) rfl
  have xl := row_lt b1b
  go_wp2_with fail
  refine (kcn.out w4 hO.out).mono ?_
  rintro e w5 ⟨v, h2, rfl, hw, hf, ho⟩
  obtain ⟨p2, e2, rfl, -, -⟩ := hw.form
  have m2 := Lib.hid (fun W (hq9 : Only (fun k => k = q ∨ k = q + 1) w5 W) => hw.kept hq9 (fun k hk e => by have := hf k hk; have := hs2'.out; have := hO.out.size; omega))
  have b2a : w5.heap[q]? = some (.cells ([.int .i64 c0, .int .i64 wy, .int .i64 h, .int .i64 mi, .slice p1 mn e1, .int .i64 g, .slice cA cn cc, .slice eA en ec, .slice tA tn tc, .slice lA ln lc] : List Value).toArray 27 (0, 0)) := ho.heap b1b (fun h => h)
  have r2a := ho.heap r1b (fun h => h)
  have hoS := Lib.hid (ho.mono (T := fun k => k = q ∨ k = q + 1) (fun _ _ h => h.elim))
  have hOa := Lib.hid (hO.out.trans' hoS.out)
  clear x0 xl hO hw hf ho
  have x0 := row_cell b2a (i := 6) rfl
  have x1 := row_free b2a 6
  have xl := row_lt b2a
  go_upto_region 3 with fail
  obtain ⟨w6, hw4⟩ : ∃ W, W = w5.setCell ⟨q, 6, none⟩ (.slice p2 cn e2) := ⟨_, rfl⟩
  rw [← hw4]
  have b2b : w6.heap[q]? = some (.cells ([.int .i64 c0, .int .i64 wy, .int .i64 h, .int .i64 mi, .slice p1 mn e1, .int .i64 g, .slice p2 cn e2, .slice eA en ec, .slice tA tn tc, .slice lA ln lc] : List Value).toArray 27 (0, 0)) := by rw [hw4]; exact row_set b2a 6 _
  have r2b := (show Only (fun k => k = q) w5 w6 from by rw [hw4]; exact (Only.refl (fun k => k = q) _).setCell (p := ⟨q, 6, none⟩) (fun _ => rfl) _).heap r2a (by omega)
  have ho4 : Only (fun k => k = q ∨ k = q + 1) w5 w6 := by rw [hw4]; exact (Only.refl (fun k => k = q ∨ k = q + 1) _).setCell (p := ⟨q, 6, none⟩) (fun _ => .inl rfl) _
  have hO := Lib.hid (hOa.out.trans' ho4)
  replace m1 := Lib.hid (fun W (hx : Only (fun k => k = q ∨ k = q + 1) w6 W) => m1.out W (hoS.out.trans' (ho4.trans' hx)))
  replace m2 := Lib.hid (fun W (hx : Only (fun k => k = q ∨ k = q + 1) w6 W) => m2.out W (ho4.trans' hx))
  clear x0 x1 xl hOa hoS ho4 hw4 b2a r2a
  have x0 := row_cell b2b (i := 7) rfl
  have xl := row_lt b2b
  go_wp2_with fail
  refine (kce.out w6 hO.out).mono ?_
  rintro e w7 ⟨v, h3, rfl, hw, hf, ho⟩
  obtain ⟨p3, e3, rfl, -, -⟩ := hw.form
  have m3 := Lib.hid (fun W (hq9 : Only (fun k => k = q ∨ k = q + 1) w7 W) => hw.kept hq9 (fun k hk e => by have := hf k hk; have := hs2'.out; have := hO.out.size; omega))
  have b3a : w7.heap[q]? = some (.cells ([.int .i64 c0, .int .i64 wy, .int .i64 h, .int .i64 mi, .slice p1 mn e1, .int .i64 g, .slice p2 cn e2, .slice eA en ec, .slice tA tn tc, .slice lA ln lc] : List Value).toArray 27 (0, 0)) := ho.heap b2b (fun h => h)
  have r3a := ho.heap r2b (fun h => h)
  have hoS := Lib.hid (ho.mono (T := fun k => k = q ∨ k = q + 1) (fun _ _ h => h.elim))
  have hOa := Lib.hid (hO.out.trans' hoS.out)
  clear x0 xl hO hw hf ho
  have x0 := row_cell b3a (i := 7) rfl
  have x1 := row_free b3a 7
  have xl := row_lt b3a
  go_upto_region 4 with fail
  obtain ⟨w8, hw4⟩ : ∃ W, W = w7.setCell ⟨q, 7, none⟩ (.slice p3 en e3) := ⟨_, rfl⟩
  rw [← hw4]
  have b3b : w8.heap[q]? = some (.cells ([.int .i64 c0, .int .i64 wy, .int .i64 h, .int .i64 mi, .slice p1 mn e1, .int .i64 g, .slice p2 cn e2, .slice p3 en e3, .slice tA tn tc, .slice lA ln lc] : List Value).toArray 27 (0, 0)) := by rw [hw4]; exact row_set b3a 7 _
  have r3b := (show Only (fun k => k = q) w7 w8 from by rw [hw4]; exact (Only.refl (fun k => k = q) _).setCell (p := ⟨q, 7, none⟩) (fun _ => rfl) _).heap r3a (by omega)
  have ho4 : Only (fun k => k = q ∨ k = q + 1) w7 w8 := by rw [hw4]; exact (Only.refl (fun k => k = q ∨ k = q + 1) _).setCell (p := ⟨q, 7, none⟩) (fun _ => .inl rfl) _
  have hO := Lib.hid (hOa.out.trans' ho4)
  replace m1 := Lib.hid (fun W (hx : Only (fun k => k = q ∨ k = q + 1) w8 W) => m1.out W (hoS.out.trans' (ho4.trans' hx)))
  replace m2 := Lib.hid (fun W (hx : Only (fun k => k = q ∨ k = q + 1) w8 W) => m2.out W (hoS.out.trans' (ho4.trans' hx)))
  replace m3 := Lib.hid (fun W (hx : Only (fun k => k = q ∨ k = q + 1) w8 W) => m3.out W (ho4.trans' hx))
  clear x0 x1 xl hOa hoS ho4 hw4 b3a r3a
  have x0 := row_cell b3b (i := 8) rfl
  have xl := row_lt b3b
  go_wp2_with fail
  refine (kta.out w8 hO.out).mono ?_
  intro e w9 hT
  obtain ⟨p4, e4, us, tb, tp, rfl, ho, hm⟩ := hrt.out _ _ _ hO.out hT
  have m4 := Lib.hid hm
  have b4a : w9.heap[q]? = some (.cells ([.int .i64 c0, .int .i64 wy, .int .i64 h, .int .i64 mi, .slice p1 mn e1, .int .i64 g, .slice p2 cn e2, .slice p3 en e3, .slice tA tn tc, .slice lA ln lc] : List Value).toArray 27 (0, 0)) := ho.heap b3b (fun h => h)
  have r4a := ho.heap r3b (fun h => h)
  have hoS := Lib.hid (ho.mono (T := fun k => k = q ∨ k = q + 1) (fun _ _ h => h.elim))
  have hOa := Lib.hid (hO.out.trans' hoS.out)
  clear x0 xl hO hm hT ho
  have x0 := row_cell b4a (i := 8) rfl
  have x1 := row_free b4a 8
  have xl := row_lt b4a
  go_upto_region 5 with fail
  obtain ⟨w10, hw4⟩ : ∃ W, W = w9.setCell ⟨q, 8, none⟩ (.slice p4 tn e4) := ⟨_, rfl⟩
  rw [← hw4]
  have b4b : w10.heap[q]? = some (.cells ([.int .i64 c0, .int .i64 wy, .int .i64 h, .int .i64 mi, .slice p1 mn e1, .int .i64 g, .slice p2 cn e2, .slice p3 en e3, .slice p4 tn e4, .slice lA ln lc] : List Value).toArray 27 (0, 0)) := by rw [hw4]; exact row_set b4a 8 _
  have r4b := (show Only (fun k => k = q) w9 w10 from by rw [hw4]; exact (Only.refl (fun k => k = q) _).setCell (p := ⟨q, 8, none⟩) (fun _ => rfl) _).heap r4a (by omega)
  have ho4 : Only (fun k => k = q ∨ k = q + 1) w9 w10 := by rw [hw4]; exact (Only.refl (fun k => k = q ∨ k = q + 1) _).setCell (p := ⟨q, 8, none⟩) (fun _ => .inl rfl) _
  have hO := Lib.hid (hOa.out.trans' ho4)
  replace m1 := Lib.hid (fun W (hx : Only (fun k => k = q ∨ k = q + 1) w10 W) => m1.out W (hoS.out.trans' (ho4.trans' hx)))
  replace m2 := Lib.hid (fun W (hx : Only (fun k => k = q ∨ k = q + 1) w10 W) => m2.out W (hoS.out.trans' (ho4.trans' hx)))
  replace m3 := Lib.hid (fun W (hx : Only (fun k => k = q ∨ k = q + 1) w10 W) => m3.out W (hoS.out.trans' (ho4.trans' hx)))
  replace m4 := Lib.hid (fun W (hx : Only (fun k => k = q ∨ k = q + 1) w10 W) => m4.out W (ho4.trans' hx))
  clear x0 x1 xl hOa hoS ho4 hw4 b4a r4a
  have x0 := row_cell b4b (i := 9) rfl
  have xl := row_lt b4b
  go_wp2_with fail
  refine (kli.out w10 hO.out).mono ?_
  rintro e w11 ⟨v, h5, rfl, hw, hf, ho⟩
  obtain ⟨p5, e5, rfl, -, -⟩ := hw.form
  have m5 := Lib.hid (fun W (hq9 : Only (fun k => k = q ∨ k = q + 1) w11 W) => hw.kept hq9 (fun k hk e => by have := hf k hk; have := hs2'.out; have := hO.out.size; omega))
  have b5a : w11.heap[q]? = some (.cells ([.int .i64 c0, .int .i64 wy, .int .i64 h, .int .i64 mi, .slice p1 mn e1, .int .i64 g, .slice p2 cn e2, .slice p3 en e3, .slice p4 tn e4, .slice lA ln lc] : List Value).toArray 27 (0, 0)) := ho.heap b4b (fun h => h)
  have r5a := ho.heap r4b (fun h => h)
  have hoS := Lib.hid (ho.mono (T := fun k => k = q ∨ k = q + 1) (fun _ _ h => h.elim))
  have hOa := Lib.hid (hO.out.trans' hoS.out)
  clear x0 xl hO hw hf ho
  have x0 := row_cell b5a (i := 9) rfl
  have x1 := row_free b5a 9
  have xl := row_lt b5a
  go_upto_region 6 with fail
  obtain ⟨w12, hw4⟩ : ∃ W, W = w11.setCell ⟨q, 9, none⟩ (.slice p5 ln e5) := ⟨_, rfl⟩
  rw [← hw4]
  have b5b : w12.heap[q]? = some (.cells ([.int .i64 c0, .int .i64 wy, .int .i64 h, .int .i64 mi, .slice p1 mn e1, .int .i64 g, .slice p2 cn e2, .slice p3 en e3, .slice p4 tn e4, .slice p5 ln e5] : List Value).toArray 27 (0, 0)) := by rw [hw4]; exact row_set b5a 9 _
  have r5b := (show Only (fun k => k = q) w11 w12 from by rw [hw4]; exact (Only.refl (fun k => k = q) _).setCell (p := ⟨q, 9, none⟩) (fun _ => rfl) _).heap r5a (by omega)
  have ho4 : Only (fun k => k = q ∨ k = q + 1) w11 w12 := by rw [hw4]; exact (Only.refl (fun k => k = q ∨ k = q + 1) _).setCell (p := ⟨q, 9, none⟩) (fun _ => .inl rfl) _
  have hO := Lib.hid (hOa.out.trans' ho4)
  replace m1 := Lib.hid (fun W (hx : Only (fun k => k = q ∨ k = q + 1) w12 W) => m1.out W (hoS.out.trans' (ho4.trans' hx)))
  replace m2 := Lib.hid (fun W (hx : Only (fun k => k = q ∨ k = q + 1) w12 W) => m2.out W (hoS.out.trans' (ho4.trans' hx)))
  replace m3 := Lib.hid (fun W (hx : Only (fun k => k = q ∨ k = q + 1) w12 W) => m3.out W (hoS.out.trans' (ho4.trans' hx)))
  replace m4 := Lib.hid (fun W (hx : Only (fun k => k = q ∨ k = q + 1) w12 W) => m4.out W (hoS.out.trans' (ho4.trans' hx)))
  replace m5 := Lib.hid (fun W (hx : Only (fun k => k = q ∨ k = q + 1) w12 W) => m5.out W (ho4.trans' hx))
  clear x0 x1 xl hOa hoS ho4 hw4 b5a r5a
  have x0 := row_cell b5b (i := 0) rfl
  have y0 := row_free r5b 0
  have z0 := row_cell r5b (i := 0) rfl
  have x1 := row_cell b5b (i := 1) rfl
  have y1 := row_free r5b 1
  have z1 := row_cell r5b (i := 1) rfl
  have x2 := row_cell b5b (i := 2) rfl
  have y2 := row_free r5b 2
  have z2 := row_cell r5b (i := 2) rfl
  have x3 := row_cell b5b (i := 3) rfl
  have y3 := row_free r5b 3
  have z3 := row_cell r5b (i := 3) rfl
  have x4 := row_cell b5b (i := 4) rfl
  have y4 := row_free r5b 4
  have z4 := row_cell r5b (i := 4) rfl
  have x5 := row_cell b5b (i := 5) rfl
  have y5 := row_free r5b 5
  have z5 := row_cell r5b (i := 5) rfl
  have x6 := row_cell b5b (i := 6) rfl
  have y6 := row_free r5b 6
  have z6 := row_cell r5b (i := 6) rfl
  have x7 := row_cell b5b (i := 7) rfl
  have y7 := row_free r5b 7
  have z7 := row_cell r5b (i := 7) rfl
  have x8 := row_cell b5b (i := 8) rfl
  have y8 := row_free r5b 8
  have z8 := row_cell r5b (i := 8) rfl
  have x9 := row_cell b5b (i := 9) rfl
  have y9 := row_free r5b 9
  have z9 := row_cell r5b (i := 9) rfl
  have xl := row_lt b5b
  have yl := row_lt r5b
  have hS := st10_row (v0 := (.int .i64 c0)) (v1 := (.int .i64 wy)) (v2 := (.int .i64 h)) (v3 := (.int .i64 mi)) (v4 := (.slice p1 mn e1)) (v5 := (.int .i64 g)) (v6 := (.slice p2 cn e2)) (v7 := (.slice p3 en e3)) (v8 := (.slice p4 tn e4)) (v9 := (.slice p5 ln e5)) r5b
  have hT := st10_only w12 (q + 1) (.int .i64 c0) (.int .i64 wy) (.int .i64 h) (.int .i64 mi) (.slice p1 mn e1) (.int .i64 g) (.slice p2 cn e2) (.slice p3 en e3) (.slice p4 tn e4) (.slice p5 ln e5)
  have hS' := Lib.hid hS
  have hT' := Lib.hid (hT.mono (T := fun k => k = q ∨ k = q + 1) (fun _ _ e => .inr e))
  clear hS hT kmb kcn kce kta kli hrt
  go_wp2
  change bodyPost _ _ _ _ _ (st10 w12 (q + 1) (.int .i64 c0) (.int .i64 wy) (.int .i64 h) (.int .i64 mi) (.slice p1 mn e1) (.int .i64 g) (.slice p2 cn e2) (.slice p3 en e3) (.slice p4 tn e4) (.slice p5 ln e5))
  obtain ⟨W9, hW9⟩ : ∃ W9, W9 = st10 w12 (q + 1) (.int .i64 c0) (.int .i64 wy) (.int .i64 h) (.int .i64 mi) (.slice p1 mn e1) (.int .i64 g) (.slice p2 cn e2) (.slice p3 en e3) (.slice p4 tn e4) (.slice p5 ln e5) := ⟨_, rfl⟩
  rw [← hW9] at hS' hT' ⊢
  have ce0 := row_cell hS'.out (i := 0) rfl
  have ce1 := row_cell hS'.out (i := 1) rfl
  have ce2 := row_cell hS'.out (i := 2) rfl
  have ce3 := row_cell hS'.out (i := 3) rfl
  have ce4 := row_cell hS'.out (i := 4) rfl
  have ce5 := row_cell hS'.out (i := 5) rfl
  have ce6 := row_cell hS'.out (i := 6) rfl
  have ce7 := row_cell hS'.out (i := 7) rfl
  have ce8 := row_cell hS'.out (i := 8) rfl
  have ce9 := row_cell hS'.out (i := 9) rfl
  exact bodyPost_ret (v := .agg #[.int .i64 c0, .int .i64 wy, .int .i64 h, .int .i64 mi, .slice p1 mn e1, .int .i64 g, .slice p2 cn e2, .slice p3 en e3, .slice p4 tn e4, .slice p5 ln e5]) (by simp [results, Tryz.results60, go_sem, ce0, ce1, ce2, ce3, ce4, ce5, ce6, ce7, ce8, ce9]) rfl (hfin.out W9 _ _ _ _ _ _ _ _ _ _ _ _ _ _ _ _ _ (m1.out _ hT'.out) (m2.out _ hT'.out) (m3.out _ hT'.out) (m5.out _ hT'.out) (m4.out _ hT'.out))
end Twn
end Go.Proofs.YtlbinlhaejhobaaGreatDoor
