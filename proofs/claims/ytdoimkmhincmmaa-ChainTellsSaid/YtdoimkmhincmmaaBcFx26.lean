/- Layer 26's fixed calls. -/
import Derived.Test.YtdoimkmhincmmaaBcGri
namespace Go.Proofs.Ytdoimkmhincmmaa
namespace Bch
open Go Go.RowKit Go.Maps Go.Shelf
def n0 : Sl := ⟨none, 0, 0⟩
def fT (th : Int) : TaskV := ⟨1, th, 0, 0, 5, 0, n0⟩
def fU : TaskV := ⟨2, 2, 0, 0, 7, 0, n0⟩
def fts (th : Int) : List TaskV := [fT th, fU]
theorem foll_det {L : Chn.Lks} : ∀ {c c' : List Nat} {f : Option Nat}, Foll L f c → Foll L f c' → c = c'
  | [], [], none, _, _ => rfl
  | [], x :: c', none, _, h => by simp [Foll] at h
  | x :: c, c', none, h, _ => by simp [Foll] at h
  | [], c', some t, h, _ => h.elim
  | x :: c, [], some t, _, h => h.elim
  | x :: c, y :: c', some t, h, k => by
    obtain ⟨rfl, d, f, h1, h2⟩ := h
    obtain ⟨rfl, d', f', k1, k2⟩ := k
    rw [h1] at k1
    cases k1
    rw [foll_det h2 k2]
theorem fd1 : deepL (fts 1) = [0, 1] := by
  have h := (deepL_ok (fts 1)).1
  rw [show firstO (fts 1) = some 0 by decide] at h
  exact foll_det h ⟨rfl, 12, some 1, by decide, rfl, 7, none, by decide, rfl⟩
theorem fd2 : deepL (fts 2) = [1] := by
  have h := (deepL_ok (fts 2)).1
  rw [show firstO (fts 2) = some 1 by decide] at h
  exact foll_det h ⟨rfl, 7, none, by decide, rfl⟩
theorem fb1 : bndZ (fts 1) = 12 := by unfold bndZ; rw [fd1]; decide
theorem fb2 : bndZ (fts 2) = 7 := by unfold bndZ; rw [fd2]; decide
theorem fg1 : grpL (fts 1) = [[1], [0]] := by decide
theorem fg2 : grpL (fts 2) = [[1, 0]] := by decide
def fC (th : Int) : List Value := [.int .i64 1, .int .i64 th, .int .i64 0, .int .i64 0, .int .i64 5, .int .i64 0, .slice none 0 0, .int .i64 2, .int .i64 2, .int .i64 0, .int .i64 0, .int .i64 7, .int .i64 0, .slice none 0 0]
def fc (X : Nat) : ConfV := ⟨0, 0, 0, 0, n0, 0, n0, n0, ⟨some ⟨X, 0, none⟩, 2, 2⟩, n0⟩
theorem fcn (X : Nat) : (fc X).ta.n ≤ 9223372036854775807 := show 2 ≤ 9223372036854775807 by decide
theorem fTasks {W : World} {X : Nat} {th : Int} (h : W.heap[X]? = some (.cells (fC th).toArray 38 (0, 0))) : TasksAt W (fc X).ta (fts th) := by
  refine ⟨rfl, Nat.le_refl _, fun k t ht => ?_⟩
  match k, ht with
  | 0, ht =>
    cases ht
    exact ⟨X, 0, rfl, row_lt h, row_cell h (i := 0) rfl, row_cell h (i := 1) rfl, row_cell h (i := 2) rfl, row_cell h (i := 3) rfl, row_cell h (i := 4) rfl, row_cell h (i := 5) rfl, row_cell h (i := 6) rfl⟩
  | 1, ht =>
    cases ht
    exact ⟨X, 0, rfl, row_lt h, row_cell h (i := 7) rfl, row_cell h (i := 8) rfl, row_cell h (i := 9) rfl, row_cell h (i := 10) rfl, row_cell h (i := 11) rfl, row_cell h (i := 12) rfl, row_cell h (i := 13) rfl⟩
  | k + 2, ht => simp [fts] at ht
def CB (W : World) (b X : Nat) : Prop :=
  W.cell? ⟨b, 0, none⟩ = some (.int .i64 0) ∧ W.cell? ⟨b, 1, none⟩ = some (.int .i64 0) ∧ W.cell? ⟨b, 2, none⟩ = some (.int .i64 0) ∧ W.cell? ⟨b, 3, none⟩ = some (.int .i64 0) ∧ W.cell? ⟨b, 4, none⟩ = some (.slice none 0 0) ∧ W.cell? ⟨b, 5, none⟩ = some (.int .i64 0) ∧
  W.cell? ⟨b, 6, none⟩ = some (.slice none 0 0) ∧ W.cell? ⟨b, 7, none⟩ = some (.slice none 0 0) ∧ W.cell? ⟨b, 8, none⟩ = some (.slice (some ⟨X, 0, none⟩) 2 2) ∧ W.cell? ⟨b, 9, none⟩ = some (.slice none 0 0) ∧ b < W.heap.size
theorem cb_of {W : World} {b X : Nat} (h : W.heap[b]? = some (.cells (fc X).cells.toArray 27 (0, 0))) : CB W b X :=
  ⟨row_cell h (i := 0) rfl, row_cell h (i := 1) rfl, row_cell h (i := 2) rfl, row_cell h (i := 3) rfl, row_cell h (i := 4) rfl, row_cell h (i := 5) rfl, row_cell h (i := 6) rfl, row_cell h (i := 7) rfl, row_cell h (i := 8) rfl, row_cell h (i := 9) rfl, row_lt h⟩
theorem cell_at {w : World} {e : TypeId} {A : Option Addr} {n cap : Nat} {h : Option Nat} {xs : List Value} (hW : Win w e 1 (.slice A n cap) h n xs) {i : Nat} {u : Value} (hu : xs[i]? = some u) : ∃ g off, A = some ⟨g, off, none⟩ ∧ w.cell? ⟨g, off + i, none⟩ = some u ∧ g < w.heap.size := by
  have hi := (List.getElem?_eq_some_iff.1 hu).1
  obtain ⟨g, off, cc, _, hv, _, _, hl, hc, _⟩ := hW.at_ (by have := hW.1; omega)
  simp only [Value.slice.injEq, true_and] at hv
  exact ⟨g, off, hv.1, hc i u hu, hl⟩
set_option maxRecDepth 100000 in
set_option maxHeartbeats 4000000 in
theorem fixed26_any (w : World) : Calls Try.prog 17 #[] w (GrowB true w) := by
  obtain ⟨q, hq⟩ : ∃ q, q = w.heap.size := ⟨_, rfl⟩
  obtain ⟨W1, hW1⟩ : ∃ W1, W1 = (w.alloc (.cells (fC 1).toArray 38)).alloc (.cells (fc q).cells.toArray 27) := ⟨_, rfl⟩
  have hO1 : Only (fun _ => False) w W1 := by rw [hW1]; exact ((Only.refl _ w).alloc _).alloc _
  have b0 : W1.heap[q]? = some (.cells (fC 1).toArray 38 (0, 0)) := by rw [hW1]; exact heap_kept_alloc (heap_new_at _ _ hq.symm) _
  have b1 : W1.heap[q + 1]? = some (.cells (fc q).cells.toArray 27 (0, 0)) := by rw [hW1]; exact heap_new_at _ _ (by simp [hq])
  have hb := Lib.hid (fun W (ho : Only (fun _ => False) W1 W) => show CB W (q + 1) q ∧ W.heap[q]? = some (.cells (fC 1).toArray 38 (0, 0)) ∧ W.heap[q + 1]? = some (.cells (fc q).cells.toArray 27 (0, 0)) from ⟨cb_of (ho.heap b1 (fun h => h)), ho.heap b0 (fun h => h), ho.heap b1 (fun h => h)⟩)
  obtain ⟨cv, hcv⟩ : ∃ cv, cv = (fc q).val := ⟨_, rfl⟩
  have cD := Lib.hid (fun W (ho : Only (fun _ => False) W1 W) => show Calls Try.prog 19 #[cv] W (RowEnd W [0, 1]) from by
    rw [hcv, ← fd1]; exact deepest_any (c := fc q) (fTasks (hb.out W ho).2.1) (fcn q))
  have cG := Lib.hid (fun W (ho : Only (fun _ => False) W1 W) => show Calls Try.prog 21 #[cv] W (GrpEnd W [[1], [0]]) from by
    rw [hcv, ← fg1]; exact groups_any (c := fc q) (fTasks (hb.out W ho).2.1) (fcn q))
  have cB := Lib.hid (fun W (ho : Only (fun _ => False) W1 W) => show Calls Try.prog 20 #[cv] W (GrowI 12 W) from by
    rw [hcv, ← fb1]; exact bound_any (c := fc q) (fTasks (hb.out W ho).2.1) (fcn q))
  have cC1 := Lib.hid (fun W (ho : Only (fun _ => False) W1 W) => show Calls Try.prog 42 #[cv, .int .i64 1, .int .i64 0] W (GrowB true W) from by
    have := can_any (c := fc q) (fTasks (hb.out W ho).2.1) (fcn q) 1 0
    rw [show canZ (fts 1) 1 0 = true by decide] at this
    rw [hcv]; exact this)
  have cC2 := Lib.hid (fun W (ho : Only (fun _ => False) W1 W) => show Calls Try.prog 42 #[cv, .int .i64 0, .int .i64 1] W (GrowB false W) from by
    have := can_any (c := fc q) (fTasks (hb.out W ho).2.1) (fcn q) 0 1
    rw [show canZ (fts 1) 0 1 = false by decide] at this
    rw [hcv]; exact this)
  have cG2 := Lib.hid (fun W (h0 : W.heap[q]? = some (.cells (fC 2).toArray 38 (0, 0))) => show Calls Try.prog 21 #[cv] W (GrpEnd W [[1, 0]]) from by
    rw [hcv, ← fg2]; exact groups_any (c := fc q) (fTasks h0) (fcn q))
  have cB2 := Lib.hid (fun W (h0 : W.heap[q]? = some (.cells (fC 2).toArray 38 (0, 0))) => show Calls Try.prog 20 #[cv] W (GrowI 7 W) from by
    rw [hcv, ← fb2]; exact bound_any (c := fc q) (fTasks h0) (fcn q))
  have cC3 := Lib.hid (fun W (h0 : W.heap[q]? = some (.cells (fC 2).toArray 38 (0, 0))) => show Calls Try.prog 42 #[cv, .int .i64 2, .int .i64 0] W (GrowB false W) from by
    have := can_any (c := fc q) (fTasks h0) (fcn q) 2 0
    rw [show canZ (fts 2) 2 0 = false by decide] at this
    rw [hcv]; exact this)
  rw [show (fc q).val = .agg #[.int .i64 0, .int .i64 0, .int .i64 0, .int .i64 0, .slice none 0 0, .int .i64 0, .slice none 0 0, .slice none 0 0, .slice (some ⟨q, 0, none⟩) 2 2, .slice none 0 0] from rfl] at hcv
  subst hcv
  obtain ⟨Z, hZ⟩ : ∃ Z, Z = GrowB true w := ⟨_, rfl⟩
  rw [← hZ]
  have hZ' := Lib.hid hZ
  have hq' := Lib.hid hq
  have hO1' := Lib.hid hO1
  rw [show (fC 1).toArray = #[.int .i64 1, .int .i64 1, .int .i64 0, .int .i64 0, .int .i64 5, .int .i64 0, .slice none 0 0, .int .i64 2, .int .i64 2, .int .i64 0, .int .i64 0, .int .i64 7, .int .i64 0, .slice none 0 0] from rfl,
    show (fc q).cells.toArray = #[.int .i64 0, .int .i64 0, .int .i64 0, .int .i64 0, .slice none 0 0, .int .i64 0, .slice none 0 0, .slice none 0 0, .slice (some ⟨q, 0, none⟩) 2 2, .slice none 0 0] from rfl] at hW1
  have hW1' := Lib.hid hW1
  clear hZ hq hW1 hO1 b0 b1
  go_enter Try.func17, Try.ntmps17
  go_wp2_with fail
  rw [← hq'.out]
  rw [← hW1'.out]
  refine (cD.out W1 (Only.refl _ _)).mono ?_
  rintro e w2 ⟨A, cap, h, rfl, hWd, hfd, ho⟩
  have hO2 := Lib.hid ho
  have hWd' := Lib.hid hWd
  clear ho hWd hfd
  obtain ⟨⟨d0, d1, d2, d3, d4, d5, d6, d7, d8, d9, dl⟩, -, -⟩ := hb.out w2 hO2.out
  go_wp2_with fail
  refine (cG.out w2 hO2.out).mono ?_
  rintro e w3 ⟨p, gc, hgo, V, H, rfl, -, ho⟩
  have hO3 := Lib.hid (hO2.out.trans' ho)
  have hWd3 := Lib.hid (hWd'.out.kept ho (fun _ _ h => h))
  clear ho d0 d1 d2 d3 d4 d5 d6 d7 d8 d9 dl hWd'
  obtain ⟨⟨d0, d1, d2, d3, d4, d5, d6, d7, d8, d9, dl⟩, -, -⟩ := hb.out w3 hO3.out
  go_wp2_with fail
  refine (cB.out w3 hO3.out).mono ?_
  rintro e w4 ⟨rfl, ho⟩
  have hO4 := Lib.hid (hO3.out.trans' ho)
  have hWd4 := Lib.hid (hWd3.out.kept ho (fun _ _ h => h))
  clear ho d0 d1 d2 d3 d4 d5 d6 d7 d8 d9 dl hWd3
  obtain ⟨⟨d0, d1, d2, d3, d4, d5, d6, d7, d8, d9, dl⟩, -, -⟩ := hb.out w4 hO4.out
  obtain ⟨g, off, rfl, cd, cdl⟩ := cell_at (i := 0) hWd4.out rfl
  rw [Nat.add_zero] at cd
  go_wp2_with fail
  refine (cC1.out w4 hO4.out).mono ?_
  rintro e w5 ⟨rfl, ho⟩
  have hO5 := Lib.hid (hO4.out.trans' ho)
  clear ho d0 d1 d2 d3 d4 d5 d6 d7 d8 d9 dl cd cdl
  obtain ⟨⟨d0, d1, d2, d3, d4, d5, d6, d7, d8, d9, dl⟩, -, -⟩ := hb.out w5 hO5.out
  go_wp2_with fail
  refine (cC2.out w5 hO5.out).mono ?_
  rintro e w6 ⟨rfl, ho⟩
  have hO6 := Lib.hid (hO5.out.trans' ho)
  clear ho d0 d1 d2 d3 d4 d5 d6 d7 d8 d9 dl
  obtain ⟨⟨d0, d1, d2, d3, d4, d5, d6, d7, d8, d9, dl⟩, r0, r1⟩ := hb.out w6 hO6.out
  have rc := row_cell r0 (i := 1) rfl
  have rf := row_free r0 1
  have rl := row_lt r0
  have hset := Lib.hid (row_set r0 1 (.int .i64 2))
  have hso := Lib.hid ((Only.refl (fun k => k = q) w6).setCell (p := ⟨q, 1, none⟩) (fun _ => rfl) (.int .i64 2))
  have hr1 := Lib.hid r1
  clear r0 r1
  go_wp2_with fail
  obtain ⟨w7, hw7⟩ : ∃ w7, w7 = w6.setCell ⟨q, 1, none⟩ (.int .i64 2) := ⟨_, rfl⟩
  rw [← hw7]
  have hs7 := Lib.hid (show w7.heap[q]? = some (.cells (fC 2).toArray 38 (0, 0)) from by rw [hw7]; exact hset.out)
  have hr7 := Lib.hid (show w7.heap[q + 1]? = some (.cells (fc q).cells.toArray 27 (0, 0)) from by rw [hw7]; exact hso.out.heap hr1.out (by omega))
  have hOw := Lib.hid (show Only (fun _ => False) w w7 from by rw [hw7]; exact ((hO1'.out.trans' hO6.out).trans hso.out (fun x hx e => by have := hq'.out; omega)))
  clear hw7 hset hso hr1 rc rf rl d0 d1 d2 d3 d4 d5 d6 d7 d8 d9 dl
  refine (cG2.out w7 hs7.out).mono ?_
  rintro e w8 ⟨p2, gc2, hgo2, V2, H2, rfl, hG, ho⟩
  have hs8 := Lib.hid (ho.heap hs7.out (fun h => h))
  have hr8 := Lib.hid (ho.heap hr7.out (fun h => h))
  have hO8 := Lib.hid (hOw.out.trans' ho)
  have hG8 := Lib.hid hG
  clear ho hG
  obtain ⟨d0, d1, d2, d3, d4, d5, d6, d7, d8, d9, dl⟩ := cb_of hr8.out
  go_wp2_with fail
  refine (cB2.out w8 hs8.out).mono ?_
  rintro e w9 ⟨rfl, ho⟩
  have hs9 := Lib.hid (ho.heap hs8.out (fun h => h))
  have hr9 := Lib.hid (ho.heap hr8.out (fun h => h))
  have hO9 := Lib.hid (hO8.out.trans' ho)
  have hG9 := hG8.out.new ho
  clear ho d0 d1 d2 d3 d4 d5 d6 d7 d8 d9 dl
  obtain ⟨A2, c2, hV2, hW2⟩ := hG9.row 0 [1, 0] rfl
  obtain ⟨g0, off0, rfl, cg, cgl⟩ := cell_at (i := 0) hG9.o hV2
  obtain ⟨g3, off3, rfl, ch, chl⟩ := cell_at (i := 0) hW2 rfl
  rw [Nat.add_zero] at cg ch
  obtain ⟨d0, d1, d2, d3, d4, d5, d6, d7, d8, d9, dl⟩ := cb_of hr9.out
  clear hG9 hV2 hW2
  go_wp2_with fail
  refine (cC3.out w9 hs9.out).mono ?_
  rintro e w10 ⟨rfl, ho⟩
  have hO10 := Lib.hid (hO9.out.trans' ho)
  clear ho d0 d1 d2 d3 d4 d5 d6 d7 d8 d9 dl cg ch cgl chl
  go_wp2
  rw [hZ'.out]
  exact ⟨rfl, hO10.out⟩
end Bch
end Go.Proofs.Ytdoimkmhincmmaa
