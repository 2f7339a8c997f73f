/- ReadyPlays' walk: whatever is released and taken, each answer is what plain rows of jobs tell. -/
import Derived.Test.YteniphdfhmbbeaaDoorPlays16b
import Derived.Test.YteniphdfhmbbeaaDoorFixed16
import Derived.Test.YteniphdfhmbbeaaDoorCin
import Derived.Test.YteniphdfhmbbeaaDoorActs
import Derived.Deep.CutBlock
namespace Go.Proofs.YteniphdfhmbbeaaDoor
open Go Go.RowKit Go.Maps Ring Band

theorem rnew_yes {w : World} (hw : Words w) {c : ConfV} {d : ConfL} {pl : Tks} (hc : ConfAt w c d pl) (hz : confZ c d pl = 0) : Calls Tryd.prog 6 #[c.val] w (RNewOk w c.ta.n (pN pl.ts)) :=
  (rnew_any hw hc).mono fun e w' h => by unfold RNewEnd at h; rwa [if_pos hz] at h
set_option maxRecDepth 100000 in
set_option maxHeartbeats 16000000 in
theorem plays_ok {w : World} (hw : Words w) {c : ConfV} {d : ConfL} {pl : Tks} (hc : ConfIn w c d pl) (hf : fewB c pl.ts = true) (hg : c.g ≤ 1000) (hz : confZ c d pl = 0) (A2 : Option Addr) (len cap2 : Nat) (z : Nat → Nat → Value) (hl : len ≤ 150) (hA2 : Acts w A2 len [.bool, .int .i64, .int .i64] z) :
    Calls Tryd.prog 3 #[c.val, .slice A2 len cap2] w fun e w' => e = .returned (.bool true) ∧ Below w.heap.size w w' := by
  have hca := hc.conf hf
  have hfine := fine_of hz
  have qfix := Lib.hid (fun W (hW : Only (fun _ => False) w W) => fixed_any W (fun k s n h1 h2 => ⟨hW.cell (hw k s n h1 h2).1 (fun h => h), hW.cell (hw k s n h1 h2).2 (fun h => h)⟩))
  have qfew := Lib.hid (fun W (hW : Only (fun _ => False) w W) => hf ▸ (hc.new hW).few)
  have qnew := Lib.hid (fun W (hW : Only (fun _ => False) w W) => rnew_yes (w := W) (fun k s n h1 h2 => ⟨hW.cell (hw k s n h1 h2).1 (fun h => h), hW.cell (hw k s n h1 h2).2 (fun h => h)⟩) (hca.new hW) hz)
  have qchk := Lib.hid (fun W (hW : Only (fun _ => False) w W) => hz ▸ rconfCheck_any (hca.new hW))
  have qord := Lib.hid (fun W (hW : Only (fun _ => False) w W) => rorder_any (hca.t.new hW) (by have := hfine.n8; omega))
  have hO := (Only.refl (fun _ => False) w).alloc (.cells c.cells.toArray 27)
  have hB := heap_new_at w (.cells c.cells.toArray 27) rfl
  obtain ⟨W1, hW1⟩ : ∃ W1, W1 = w.alloc (.cells c.cells.toArray 27) := ⟨_, rfl⟩
  obtain ⟨q0, hq0⟩ : ∃ q0, q0 = w.heap.size := ⟨_, rfl⟩
  rw [← hW1, ← hq0] at hB
  rw [← hW1] at hO
  unfold ConfV.cells at hW1
  have hT := Lib.hid hca.t
  have hfine' := Lib.hid hfine
  rw [show c.val = .agg #[.int .i64 c.s, .int .i64 c.wy, .int .i64 c.h, .int .i64 c.mi, .slice c.mb.A c.mb.n c.mb.cap, .int .i64 c.g, .slice c.cn.A c.cn.n c.cn.cap, .slice c.ce.A c.ce.n c.ce.cap, .slice c.ta.A c.ta.n c.ta.cap, .slice c.li.A c.li.n c.li.cap] from rfl] at qnew qchk qord ⊢
  have hcv := show c.cells = [.int .i64 c.s, .int .i64 c.wy, .int .i64 c.h, .int .i64 c.mi, .slice c.mb.A c.mb.n c.mb.cap, .int .i64 c.g, .slice c.cn.A c.cn.n c.cn.cap, .slice c.ce.A c.ce.n c.ce.cap, .slice c.ta.A c.ta.n c.ta.cap, .slice c.li.A c.li.n c.li.cap] from rfl
  rw [hcv] at hB
  have hn8 := hfine.n8
  have hn1 := hfine.n1
  clear hc hf hz hca hfine hcv
  obtain ⟨s, wy, h, mi, ⟨mA, mn, mc⟩, g, ⟨cA, cn, cc⟩, ⟨eA, en, ec⟩, ⟨tA, n, tc⟩, ⟨lA, ln, lc⟩⟩ := c
  simp only at *
  have hA2' := Lib.hid hA2
  have hW1' := Lib.hid hW1
  have hO' := Lib.hid hO
  have hq' := Lib.hid hq0
  have hB' := Lib.hid hB
  have hl0 : ¬ 150 < (len : Int) := by omega
  have hg0 : ¬ 1000 < g := by omega
  have mk1 := fun W0 : World => run_make_list (P := Tryd.prog) W0 46 43 (.slice none 0 0) 24 Tryd.underlying46 (by kernel_rfl) rfl n (by omega) (by omega)
  have mk2 := fun W0 : World => run_make_list (P := Tryd.prog) W0 24 3 (.int .i64 0) 8 Tryd.underlying24 (by kernel_rfl) rfl n (by omega) (by omega)
  clear hB hW1 hO hq0 hA2 hw
  go_enter Tryd.func3, Tryd.ntmps3
  go_wp2_with fail
  rw [← hW1'.out]
  refine (qfix.out _ hO'.out).mono ?_
  rintro e w1 ⟨rfl, ho1⟩
  have ho1' := Lib.hid (hO'.out.trans' ho1)
  have hB1 := Lib.hid (ho1.heap hB'.out (fun h => h))
  have e0 := row_cell (L := [_, _, _, _, _, _, _, _, _, _]) hB1.out (i := 0) rfl
  have e1 := row_cell (L := [_, _, _, _, _, _, _, _, _, _]) hB1.out (i := 1) rfl
  have e2 := row_cell (L := [_, _, _, _, _, _, _, _, _, _]) hB1.out (i := 2) rfl
  have e3 := row_cell (L := [_, _, _, _, _, _, _, _, _, _]) hB1.out (i := 3) rfl
  have e4 := row_cell (L := [_, _, _, _, _, _, _, _, _, _]) hB1.out (i := 4) rfl
  have e5 := row_cell (L := [_, _, _, _, _, _, _, _, _, _]) hB1.out (i := 5) rfl
  have e6 := row_cell (L := [_, _, _, _, _, _, _, _, _, _]) hB1.out (i := 6) rfl
  have e7 := row_cell (L := [_, _, _, _, _, _, _, _, _, _]) hB1.out (i := 7) rfl
  have e8 := row_cell (L := [_, _, _, _, _, _, _, _, _, _]) hB1.out (i := 8) rfl
  have e9 := row_cell (L := [_, _, _, _, _, _, _, _, _, _]) hB1.out (i := 9) rfl
  have hql := row_lt hB1.out
  clear ho1 hB' hO' hW1'
  rw [← hq'.out]
  go_wp2_with fail
  refine (qfew.out _ ho1'.out).mono ?_
  rintro e w2 ⟨rfl, ho2⟩
  obtain ⟨hB2, ho2'⟩ : Hid (w2.heap[q0]? = some (.cells #[.int .i64 s, .int .i64 wy, .int .i64 h, .int .i64 mi, .slice mA mn mc, .int .i64 g, .slice cA cn cc, .slice eA en ec, .slice tA n tc, .slice lA ln lc] 27 (0, 0))) ∧ Hid (Only (fun _ => False) w w2) := ⟨Lib.hid (ho2.heap hB1.out (fun h => h)), Lib.hid (ho1'.out.trans' ho2)⟩
  replace e0 := ho2.cell e0 (fun h => h)
  replace e1 := ho2.cell e1 (fun h => h)
  replace e2 := ho2.cell e2 (fun h => h)
  replace e3 := ho2.cell e3 (fun h => h)
  replace e4 := ho2.cell e4 (fun h => h)
  replace e5 := ho2.cell e5 (fun h => h)
  replace e6 := ho2.cell e6 (fun h => h)
  replace e7 := ho2.cell e7 (fun h => h)
  replace e8 := ho2.cell e8 (fun h => h)
  replace e9 := ho2.cell e9 (fun h => h)
  replace hql := Nat.lt_of_lt_of_le hql ho2.size
  have hq2 := Lib.hid hql
  clear ho2 hB1 ho1' qfew qfix
  go_wp2_with fail
  refine (qnew.out _ ho2'.out).mono ?_
  rintro e w3 ⟨r, G, bs, bm, ring, rfl, hR, hb, ho3⟩
  have hR3 := Lib.hid hR
  have hb3 := Lib.hid hb
  have hs2 := Lib.hid ho2'.out.size
  have hlt3 := Lib.hid hR.lt
  have ho3' := Lib.hid (ho2'.out.trans' ho3)
  have hB3 := Lib.hid (ho3.heap hB2.out (fun h => h))
  have hs3 := Lib.hid ho3.size
  replace e0 := ho3.cell e0 (fun h => h)
  replace e1 := ho3.cell e1 (fun h => h)
  replace e2 := ho3.cell e2 (fun h => h)
  replace e3 := ho3.cell e3 (fun h => h)
  replace e4 := ho3.cell e4 (fun h => h)
  replace e5 := ho3.cell e5 (fun h => h)
  replace e6 := ho3.cell e6 (fun h => h)
  replace e7 := ho3.cell e7 (fun h => h)
  replace e8 := ho3.cell e8 (fun h => h)
  replace e9 := ho3.cell e9 (fun h => h)
  replace hql := Nat.lt_of_lt_of_le hql ho3.size
  clear hR hb ho3 hB2 ho2' qnew
  go_wp2_with fail
  refine (qchk.out _ ho3'.out).mono ?_
  rintro e w4 ⟨rfl, ho4⟩
  have hR4 := Lib.hid (hR3.out.new ho4)
  have ho4' := Lib.hid (ho3'.out.trans' ho4)
  have hB4 := Lib.hid (ho4.heap hB3.out (fun h => h))
  have hs4 := Lib.hid ho4.size
  replace e0 := ho4.cell e0 (fun h => h)
  replace e1 := ho4.cell e1 (fun h => h)
  replace e2 := ho4.cell e2 (fun h => h)
  replace e3 := ho4.cell e3 (fun h => h)
  replace e4 := ho4.cell e4 (fun h => h)
  replace e5 := ho4.cell e5 (fun h => h)
  replace e6 := ho4.cell e6 (fun h => h)
  replace e7 := ho4.cell e7 (fun h => h)
  replace e8 := ho4.cell e8 (fun h => h)
  replace e9 := ho4.cell e9 (fun h => h)
  replace hql := Nat.lt_of_lt_of_le hql ho4.size
  clear ho4 hB3 ho3' qchk hR3
  go_wp2_with fail
  refine (qord.out _ ho4'.out).mono ?_
  rintro e w5 ⟨oA, ocap, oh, rfl, hW5, hoh, ho5⟩
  have hR5 := Lib.hid (hR4.out.new ho5)
  have ho5' := Lib.hid (ho4'.out.trans' ho5)
  have hs5 := Lib.hid ho5.size
  have hW5' := Lib.hid hW5
  have hoh' := Lib.hid hoh
  replace e8 := ho5.cell e8 (fun h => h)
  replace hql := Nat.lt_of_lt_of_le hql ho5.size
  clear ho5 hB4 ho4' qord hR4 hW5 hoh e0 e1 e2 e3 e4 e5 e6 e7 e9
  go_upto_region 14 with fail
  rename_i K hK
  refine wp_mono (Q := Exit.then (fun a1 w1 => Code.wp Tryd.prog rest3 (bodyPost Tryd.prog Tryd.f3 (fun e w' => e = .returned (.bool true) ∧ Below w.heap.size w w')) a1 w1) (bodyPost Tryd.prog Tryd.f3 (fun e w' => e = .returned (.bool true) ∧ Below w.heap.size w w'))) ?_ (fun e a1 w1 h => by cases e <;> first | exact hK _ _ h | exact h)
  clear hK K
  go_wp2
  obtain ⟨R, hRe⟩ : ∃ R, R = w5.heap.size := ⟨_, rfl⟩
  obtain ⟨W, hWe⟩ : ∃ W, W = (w5.alloc (.cells (Array.replicate n (.slice none 0 0)) 43)).alloc (.cells (Array.replicate n (.int .i64 0)) 3) := ⟨_, rfl⟩
  rw [← hWe, ← hRe]
  have oW : Only (fun _ => False) w5 W := by rw [hWe]; exact ((Only.refl _ w5).alloc _).alloc _
  have bR : W.heap[R]? = some (.cells (Array.replicate n (.slice none 0 0)) 43 (0, 0)) := by rw [hWe]; exact heap_kept_alloc (heap_new_at _ _ hRe.symm) _
  have bN : W.heap[R + 1]? = some (.cells (Array.replicate n (.int .i64 0)) 3 (0, 0)) := by rw [hWe]; exact heap_new_at _ _ (by simp [hRe])
  have hR5a := hR5.out.new oW
  have hlt5 : ∀ k, rfp r G bs bm n ring (fun _ => none) k → k < w3.heap.size ∧ w2.heap.size ≤ k := hlt3.out
  have s2 := hs2.out
  have s3 := hs3.out
  have s4 := hs4.out
  have s5 := hs5.out
  have hq2' := hq2.out
  have hrR : ∀ k, rfp r G bs bm n ring (fun _ => none) k → k < R := fun k hk => by have := (hlt5 k hk).1; omega
  have hrow : ((List.range n).map (fun _ => Value.slice none 0 0)).toArray = Array.replicate n (.slice none 0 0) := by
    rw [List.map_const', List.length_range, List.toArray_replicate]
  have hnxr : (nxRow (fun _ => 0) n).toArray = Array.replicate n (.int .i64 0) := by
    unfold nxRow
    rw [show (fun _ => Value.int .i64 ((0 : Nat) : Int)) = fun _ : Nat => Value.int .i64 0 from rfl, List.map_const', List.length_range, List.toArray_replicate]
  have hP := Lib.hid (show ∀ i, i < n → prio pl.ts i = (pN pl.ts i : Int) from fun i hi => by
    obtain ⟨t, ht⟩ : ∃ t, pl.ts[i]? = some t := ⟨_, List.getElem?_eq_getElem (by have := hT.out.len; simp only at this; omega)⟩
    have := hfine'.out.pr i t hi ht
    rw [prio_at ht, pN_at ht]
    omega)
  have hTl : TellR (fun k => tfp r G bs bm n ring (fun _ => none) (R + 1) k ∨ k = R) W w2.heap.size r G bs bm n (pN pl.ts) ring R (R + 1) (fun _ => 0) (fun _ => none) (fun _ => []) 0#64 (fun _ => .slice none 0 0) (fun _ => none) W :=
    ⟨hR5a, hb3.out, ⟨by rw [hrow]; exact bR, fun i hi => Win.nil _ _ _, fun i j _ _ _ k hk => (by cases hk), fun i _ k hk => (by cases hk), by omega⟩, by rw [hnxr]; exact bN, fun k hk => ⟨?_, fun _ _ => by simp⟩, fun hk => ?_, Only.refl _ W, fun k _ hk => ?_⟩
  · exact plays_rest (S := fun k => tfp r G bs bm n ring (fun _ => none) (R + 1) k ∨ k = R) hn8 hl hA2'.out hT hP (ho5'.out.trans' oW) hq'.out (oW.cell e8 (fun h => h)) (fun k hk => by
      rcases hk with (hk | rfl) | rfl
      · have := (hlt5 k hk).2; omega
      · omega
      · omega) hs2.out (hW5'.out.kept oW (fun _ _ h => h)) (fun b hb hk => by
      have h1 := hoh'.out b hb
      have h2 := hW5'.out.lt b hb
      rcases hk with (hk | rfl) | rfl
      · have := (hlt5 b hk).1; omega
      · omega
      · omega) ⟨_, _, _, _, _, _, hTl, fun i => Nat.le_refl _, by rw [total_none (fun _ => rfl)]; rfl⟩
  · rcases hk with hk | rfl
    · have := hrR k hk; omega
    · omega
  · have := hrR _ hk; omega
  · rcases hk with hk | rfl | ⟨_, _, hk⟩
    · exact .inl hk
    · exact .inr rfl
    · cases hk
end Go.Proofs.YteniphdfhmbbeaaDoor
namespace Go.Proofs.YteniphdfhmbbeaaDoor
open Go Go.RowKit Go.Maps Ring Band

set_option maxRecDepth 100000 in
set_option maxHeartbeats 16000000 in
theorem plays_long {w : World} (hw : Words w) {c : ConfV} {d : ConfL} {pl : Tks} (hc : ConfIn w c d pl) (A2 : Option Addr) (len cap2 : Nat) (hl : fewB c pl.ts = false ∨ 150 < len ∨ 1000 < c.g) :
    Calls Tryd.prog 3 #[c.val, .slice A2 len cap2] w fun e w' => e = .returned (.bool true) ∧ Below w.heap.size w w' := by
  have qfix := Lib.hid (fun W (hW : Only (fun _ => False) w W) => fixed_any W (fun k s n h1 h2 => ⟨hW.cell (hw k s n h1 h2).1 (fun h => h), hW.cell (hw k s n h1 h2).2 (fun h => h)⟩))
  have qfew := Lib.hid (fun W (hW : Only (fun _ => False) w W) => (hc.new hW).few)
  have hO := (Only.refl (fun _ => False) w).alloc (.cells c.cells.toArray 27)
  have hB := heap_new_at w (.cells c.cells.toArray 27) rfl
  obtain ⟨W1, hW1⟩ : ∃ W1, W1 = w.alloc (.cells c.cells.toArray 27) := ⟨_, rfl⟩
  obtain ⟨q0, hq0⟩ : ∃ q0, q0 = w.heap.size := ⟨_, rfl⟩
  rw [← hW1, ← hq0] at hB
  rw [← hW1] at hO
  unfold ConfV.cells at hW1
  obtain ⟨F, hF⟩ : ∃ F, F = fewB c pl.ts := ⟨_, rfl⟩
  rw [← hF] at hl qfew
  rw [show c.val = .agg #[.int .i64 c.s, .int .i64 c.wy, .int .i64 c.h, .int .i64 c.mi, .slice c.mb.A c.mb.n c.mb.cap, .int .i64 c.g, .slice c.cn.A c.cn.n c.cn.cap, .slice c.ce.A c.ce.n c.ce.cap, .slice c.ta.A c.ta.n c.ta.cap, .slice c.li.A c.li.n c.li.cap] from rfl]
  have hcv := show c.cells = [.int .i64 c.s, .int .i64 c.wy, .int .i64 c.h, .int .i64 c.mi, .slice c.mb.A c.mb.n c.mb.cap, .int .i64 c.g, .slice c.cn.A c.cn.n c.cn.cap, .slice c.ce.A c.ce.n c.ce.cap, .slice c.ta.A c.ta.n c.ta.cap, .slice c.li.A c.li.n c.li.cap] from rfl
  rw [hcv] at hB
  clear hc hcv hF
  obtain ⟨s, wy, h, mi, ⟨mA, mn, mc⟩, g, ⟨cA, cn, cc⟩, ⟨eA, en, ec⟩, ⟨tA, n, tc⟩, ⟨lA, ln, lc⟩⟩ := c
  simp only at *
  have hW1' := Lib.hid hW1
  have hO' := Lib.hid hO
  have hq' := Lib.hid hq0
  have hB' := Lib.hid hB
  have hl' := Lib.hid (show F = false ∨ (150 : Int) < (len : Int) ∨ 1000 < g from hl.imp id (Or.imp (fun h => by omega) id))
  clear hl
  clear hB hW1 hO hq0 hw
  go_enter Tryd.func3, Tryd.ntmps3
  go_wp2_with fail
  rw [← hW1'.out]
  refine (qfix.out _ hO'.out).mono ?_
  rintro e w1 ⟨rfl, ho1⟩
  have ho1' := Lib.hid (hO'.out.trans' ho1)
  have hB1 := Lib.hid (ho1.heap hB'.out (fun h => h))
  have e0 := row_cell (L := [_, _, _, _, _, _, _, _, _, _]) hB1.out (i := 0) rfl
  have e1 := row_cell (L := [_, _, _, _, _, _, _, _, _, _]) hB1.out (i := 1) rfl
  have e2 := row_cell (L := [_, _, _, _, _, _, _, _, _, _]) hB1.out (i := 2) rfl
  have e3 := row_cell (L := [_, _, _, _, _, _, _, _, _, _]) hB1.out (i := 3) rfl
  have e4 := row_cell (L := [_, _, _, _, _, _, _, _, _, _]) hB1.out (i := 4) rfl
  have e5 := row_cell (L := [_, _, _, _, _, _, _, _, _, _]) hB1.out (i := 5) rfl
  have e6 := row_cell (L := [_, _, _, _, _, _, _, _, _, _]) hB1.out (i := 6) rfl
  have e7 := row_cell (L := [_, _, _, _, _, _, _, _, _, _]) hB1.out (i := 7) rfl
  have e8 := row_cell (L := [_, _, _, _, _, _, _, _, _, _]) hB1.out (i := 8) rfl
  have e9 := row_cell (L := [_, _, _, _, _, _, _, _, _, _]) hB1.out (i := 9) rfl
  have hql := row_lt hB1.out
  clear ho1 hB' hO' hW1'
  rw [← hq'.out]
  go_wp2_with fail
  refine (qfew.out _ ho1'.out).mono ?_
  rintro e w2 ⟨rfl, ho2⟩
  have ho2' := Lib.hid (ho1'.out.trans' ho2)
  replace e5 := ho2.cell e5 (fun h => h)
  replace hql := Nat.lt_of_lt_of_le hql ho2.size
  clear ho2 hB1 ho1' qfew qfix e0 e1 e2 e3 e4 e6 e7 e8 e9
  cases F with
  | false =>
    go_wp2
    go_ret
    exact ⟨rfl, ho2'.out.below (Nat.le_refl _) (fun _ h => h.elim)⟩
  | true =>
    by_cases h1 : (150 : Int) < (len : Int)
    · go_wp2
      go_ret
      exact ⟨rfl, ho2'.out.below (Nat.le_refl _) (fun _ h => h.elim)⟩
    · have h2 : 1000 < g := (hl'.out.resolve_left (by simp)).resolve_left h1
      go_wp2
      go_ret
      exact ⟨rfl, ho2'.out.below (Nat.le_refl _) (fun _ h => h.elim)⟩

set_option maxRecDepth 100000 in
set_option maxHeartbeats 16000000 in
theorem plays_err {w : World} (hw : Words w) {c : ConfV} {d : ConfL} {pl : Tks} (hc : ConfIn w c d pl) (hf : fewB c pl.ts = true) (hg : c.g ≤ 1000) (hz : confZ c d pl ≠ 0) (A2 : Option Addr) (len cap2 : Nat) (hl : len ≤ 150) :
    Calls Tryd.prog 3 #[c.val, .slice A2 len cap2] w fun e w' => e = .returned (.bool true) ∧ Below w.heap.size w w' := by
  have hca := hc.conf hf
  have qfix := Lib.hid (fun W (hW : Only (fun _ => False) w W) => fixed_any W (fun k s n h1 h2 => ⟨hW.cell (hw k s n h1 h2).1 (fun h => h), hW.cell (hw k s n h1 h2).2 (fun h => h)⟩))
  have qfew := Lib.hid (fun W (hW : Only (fun _ => False) w W) => hf ▸ (hc.new hW).few)
  have qnew := Lib.hid (fun W (hW : Only (fun _ => False) w W) => (rnew_any (w := W) (fun k s n h1 h2 => ⟨hW.cell (hw k s n h1 h2).1 (fun h => h), hW.cell (hw k s n h1 h2).2 (fun h => h)⟩) (hca.new hW)).mono (fun e w' h => show e = .returned (.tuple #[.pointer none, .int .i64 (confZ c d pl)]) ∧ Only (fun _ => False) W w' from by unfold RNewEnd at h; rwa [if_neg hz] at h))
  have qchk := Lib.hid (fun W (hW : Only (fun _ => False) w W) => rconfCheck_any (hca.new hW))
  have hO := (Only.refl (fun _ => False) w).alloc (.cells c.cells.toArray 27)
  have hB := heap_new_at w (.cells c.cells.toArray 27) rfl
  obtain ⟨W1, hW1⟩ : ∃ W1, W1 = w.alloc (.cells c.cells.toArray 27) := ⟨_, rfl⟩
  obtain ⟨q0, hq0⟩ : ∃ q0, q0 = w.heap.size := ⟨_, rfl⟩
  rw [← hW1, ← hq0] at hB
  rw [← hW1] at hO
  unfold ConfV.cells at hW1
  obtain ⟨Z, hZ⟩ : ∃ Z, Z = confZ c d pl := ⟨_, rfl⟩
  rw [← hZ] at hz qnew qchk
  rw [show c.val = .agg #[.int .i64 c.s, .int .i64 c.wy, .int .i64 c.h, .int .i64 c.mi, .slice c.mb.A c.mb.n c.mb.cap, .int .i64 c.g, .slice c.cn.A c.cn.n c.cn.cap, .slice c.ce.A c.ce.n c.ce.cap, .slice c.ta.A c.ta.n c.ta.cap, .slice c.li.A c.li.n c.li.cap] from rfl] at qnew qchk ⊢
  have hcv := show c.cells = [.int .i64 c.s, .int .i64 c.wy, .int .i64 c.h, .int .i64 c.mi, .slice c.mb.A c.mb.n c.mb.cap, .int .i64 c.g, .slice c.cn.A c.cn.n c.cn.cap, .slice c.ce.A c.ce.n c.ce.cap, .slice c.ta.A c.ta.n c.ta.cap, .slice c.li.A c.li.n c.li.cap] from rfl
  rw [hcv] at hB
  have hZ0 : (Z != 0) = true := by simpa using hz
  have hZZ : (Z == Z) = true := by simp
  clear hc hf hz hca hcv hZ
  obtain ⟨s, wy, h, mi, ⟨mA, mn, mc⟩, g, ⟨cA, cn, cc⟩, ⟨eA, en, ec⟩, ⟨tA, n, tc⟩, ⟨lA, ln, lc⟩⟩ := c
  simp only at *
  have hW1' := Lib.hid hW1
  have hO' := Lib.hid hO
  have hq' := Lib.hid hq0
  have hB' := Lib.hid hB
  have hl0 : ¬ 150 < (len : Int) := by omega
  have hg0 : ¬ 1000 < g := by omega
  clear hB hW1 hO hq0 hw
  go_enter Tryd.func3, Tryd.ntmps3
  go_wp2_with fail
  rw [← hW1'.out]
  refine (qfix.out _ hO'.out).mono ?_
  rintro e w1 ⟨rfl, ho1⟩
  have ho1' := Lib.hid (hO'.out.trans' ho1)
  have hB1 := Lib.hid (ho1.heap hB'.out (fun h => h))
  have e0 := row_cell (L := [_, _, _, _, _, _, _, _, _, _]) hB1.out (i := 0) rfl
  have e1 := row_cell (L := [_, _, _, _, _, _, _, _, _, _]) hB1.out (i := 1) rfl
  have e2 := row_cell (L := [_, _, _, _, _, _, _, _, _, _]) hB1.out (i := 2) rfl
  have e3 := row_cell (L := [_, _, _, _, _, _, _, _, _, _]) hB1.out (i := 3) rfl
  have e4 := row_cell (L := [_, _, _, _, _, _, _, _, _, _]) hB1.out (i := 4) rfl
  have e5 := row_cell (L := [_, _, _, _, _, _, _, _, _, _]) hB1.out (i := 5) rfl
  have e6 := row_cell (L := [_, _, _, _, _, _, _, _, _, _]) hB1.out (i := 6) rfl
  have e7 := row_cell (L := [_, _, _, _, _, _, _, _, _, _]) hB1.out (i := 7) rfl
  have e8 := row_cell (L := [_, _, _, _, _, _, _, _, _, _]) hB1.out (i := 8) rfl
  have e9 := row_cell (L := [_, _, _, _, _, _, _, _, _, _]) hB1.out (i := 9) rfl
  have hql := row_lt hB1.out
  clear ho1 hB' hO' hW1'
  rw [← hq'.out]
  go_wp2_with fail
  refine (qfew.out _ ho1'.out).mono ?_
  rintro e w2 ⟨rfl, ho2⟩
  obtain ⟨hB2, ho2'⟩ : Hid (w2.heap[q0]? = some (.cells #[.int .i64 s, .int .i64 wy, .int .i64 h, .int .i64 mi, .slice mA mn mc, .int .i64 g, .slice cA cn cc, .slice eA en ec, .slice tA n tc, .slice lA ln lc] 27 (0, 0))) ∧ Hid (Only (fun _ => False) w w2) := ⟨Lib.hid (ho2.heap hB1.out (fun h => h)), Lib.hid (ho1'.out.trans' ho2)⟩
  replace e0 := ho2.cell e0 (fun h => h)
  replace e1 := ho2.cell e1 (fun h => h)
  replace e2 := ho2.cell e2 (fun h => h)
  replace e3 := ho2.cell e3 (fun h => h)
  replace e4 := ho2.cell e4 (fun h => h)
  replace e5 := ho2.cell e5 (fun h => h)
  replace e6 := ho2.cell e6 (fun h => h)
  replace e7 := ho2.cell e7 (fun h => h)
  replace e8 := ho2.cell e8 (fun h => h)
  replace e9 := ho2.cell e9 (fun h => h)
  replace hql := Nat.lt_of_lt_of_le hql ho2.size
  have hq2 := Lib.hid hql
  clear ho2 hB1 ho1' qfew qfix
  go_wp2_with fail
  refine (qnew.out _ ho2'.out).mono ?_
  rintro e w3 ⟨rfl, ho3⟩
  have ho3' := Lib.hid (ho2'.out.trans' ho3)
  replace e0 := ho3.cell e0 (fun h => h)
  replace e1 := ho3.cell e1 (fun h => h)
  replace e2 := ho3.cell e2 (fun h => h)
  replace e3 := ho3.cell e3 (fun h => h)
  replace e4 := ho3.cell e4 (fun h => h)
  replace e5 := ho3.cell e5 (fun h => h)
  replace e6 := ho3.cell e6 (fun h => h)
  replace e7 := ho3.cell e7 (fun h => h)
  replace e8 := ho3.cell e8 (fun h => h)
  replace e9 := ho3.cell e9 (fun h => h)
  replace hql := Nat.lt_of_lt_of_le hql ho3.size
  clear ho3 hB2 ho2' qnew hq2
  go_wp2_with fail
  refine (qchk.out _ ho3'.out).mono ?_
  rintro e w4 ⟨rfl, ho4⟩
  have ho4' := Lib.hid (ho3'.out.trans' ho4)
  clear ho4 ho3' qchk e0 e1 e2 e3 e4 e5 e6 e7 e8 e9
  have qt := Lib.hid (take_nil w4)
  rw [show zjb.val = .agg #[.int .i64 0, .int .i64 0, .int .i64 0] from rfl] at qt
  go_wp2_with fail
  refine qt.out.mono ?_
  rintro e w5 ⟨rfl, ho5⟩
  have ho5' := Lib.hid (ho4'.out.trans' (ho5.alloc (.cells #[.int .i64 0, .int .i64 0, .int .i64 0] 37)))
  have qr := Lib.hid (fun W' => release_nil 0 0 W')
  rw [show zjb.val = .agg #[.int .i64 0, .int .i64 0, .int .i64 0] from rfl] at qr
  clear ho5 qt ho4'
  go_wp2_with fail
  refine (qr.out _).mono ?_
  rintro e w6 ⟨rfl, ho6⟩
  have ho6' := Lib.hid (ho5'.out.trans' (ho6.alloc (.cells #[.int .i64 0, .int .i64 0, .int .i64 0] 37)))
  clear ho6 ho5' qr
  go_wp2_with (first | (go_at_call 10; refine (rlen_nil _).mono ?_; rintro e w' ⟨rfl, hw⟩; subst w') | (go_at_call 11; refine (waiting_nil _ _).mono ?_; rintro e w' ⟨rfl, hw⟩; subst w'))
  go_ret
  exact ⟨rfl, ho6'.out.below (Nat.le_refl _) (fun _ h => h.elim)⟩

theorem plays {w : World} (hw : Words w) {c : ConfV} {d : ConfL} {pl : Tks} (hc : ConfIn w c d pl) (A2 : Option Addr) (len cap2 : Nat) (z : Nat → Nat → Value) (hA2 : Acts w A2 len [.bool, .int .i64, .int .i64] z) :
    Calls Tryd.prog 3 #[c.val, .slice A2 len cap2] w fun e w' => e = .returned (.bool true) ∧ Below w.heap.size w w' := by
  by_cases hl : fewB c pl.ts = false ∨ 150 < len ∨ 1000 < c.g
  · exact plays_long hw hc A2 len cap2 hl
  · have hf : fewB c pl.ts = true := by cases h : fewB c pl.ts with | true => rfl | false => exact absurd (.inl h) hl
    by_cases hz : confZ c d pl = 0
    · exact plays_ok hw hc hf (by omega) hz A2 len cap2 z (by omega) hA2
    · exact plays_err hw hc hf (by omega) hz A2 len cap2 (by omega)
end Go.Proofs.YteniphdfhmbbeaaDoor
