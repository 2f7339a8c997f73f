/- ChainGroups, walked. -/
import Derived.Test.YtcgnboplpibcgaaGrq
namespace Go.Proofs.Ytcgnboplpibcgaa
open Go Go.RowKit Go.Maps Go.Shelf
def CX (W : World) (q : Nat) (c : ConfV) : Prop :=
  W.cell? ⟨q, 0, none⟩ = some (.int .i64 c.s) ∧ W.cell? ⟨q, 1, none⟩ = some (.int .i64 c.wy) ∧ W.cell? ⟨q, 2, none⟩ = some (.int .i64 c.h) ∧ W.cell? ⟨q, 3, none⟩ = some (.int .i64 c.mi) ∧ W.cell? ⟨q, 4, none⟩ = some (.slice c.mb.A c.mb.n c.mb.cap) ∧ W.cell? ⟨q, 5, none⟩ = some (.int .i64 c.g) ∧
  W.cell? ⟨q, 6, none⟩ = some (.slice c.cn.A c.cn.n c.cn.cap) ∧ W.cell? ⟨q, 7, none⟩ = some (.slice c.ce.A c.ce.n c.ce.cap) ∧ W.cell? ⟨q, 8, none⟩ = some (.slice c.ta.A c.ta.n c.ta.cap) ∧ W.cell? ⟨q, 9, none⟩ = some (.slice c.li.A c.li.n c.li.cap) ∧ q < W.heap.size
theorem cx_of {W : World} {q : Nat} {c : ConfV} (h : W.heap[q]? = some (.cells c.cells.toArray 47 (0, 0))) : CX W q c :=
  ⟨row_cell h (i := 0) rfl, row_cell h (i := 1) rfl, row_cell h (i := 2) rfl, row_cell h (i := 3) rfl, row_cell h (i := 4) rfl, row_cell h (i := 5) rfl, row_cell h (i := 6) rfl, row_cell h (i := 7) rfl, row_cell h (i := 8) rfl, row_cell h (i := 9) rfl, row_lt h⟩
theorem any_snoc {M : List Nat} {r k : Nat} {f : Nat → Bool} (h : M[r]? = some k) : (M.take (r + 1)).any f = ((M.take r).any f || f k) := by
  rw [take_snoc h, List.any_append]
  simp
theorem goodB_val (ts : List TaskV) (k i : Nat) : goodB ts k i = (decide (prio ts i < prio ts k) && (decide (thr ts i < prio ts k) || decide (thr ts k < prio ts i))) := rfl
theorem info4 : (Try.prog.info? 4).map (fun i => (i.zero, i.size, i.bytes)) = some (some (Value.bool false), 1, 1) := by kernel_rfl
set_option maxRecDepth 100000 in
set_option maxHeartbeats 8000000 in
theorem chainGroups_any {w : World} {c : ConfV} {ts : List TaskV} (hT : TasksAt w c.ta ts) (hn : c.ta.n ≤ 9223372036854775807) : Calls Try.prog 8 #[c.val] w (AnsB true w) := by
  obtain ⟨q, hq⟩ : ∃ q, q = w.heap.size := ⟨_, rfl⟩
  obtain ⟨W1, hW1⟩ : ∃ W1, W1 = w.alloc (.cells c.cells.toArray 47) := ⟨_, rfl⟩
  have hO1 : Only (fun _ => False) w W1 := by rw [hW1]; exact (Only.refl _ w).alloc _
  have b0 : W1.heap[q]? = some (.cells c.cells.toArray 47 (0, 0)) := by rw [hW1]; exact heap_new_at _ _ hq.symm
  obtain ⟨B, hB⟩ : ∃ B, B = W1.heap.size := ⟨_, rfl⟩
  have hqB : q < B := by rw [hB]; exact row_lt b0
  have hwB : w.heap.size ≤ B := by rw [hB]; exact hO1.size
  have hb := Lib.hid (fun W (ho : Only (fun k => B ≤ k) W1 W) => show W.heap[q]? = some (.cells c.cells.toArray 47 (0, 0)) ∧ TasksAt W c.ta ts ∧ Only (fun _ => False) w W from by
    have hO : Only (fun _ => False) w W := hO1.trans ho (fun x hx e => by omega)
    exact ⟨ho.heap b0 (by omega), hT.new hO, hO⟩)
  have hlen := Lib.hid hT.len
  have hn' := Lib.hid hn
  obtain ⟨Z, hZ⟩ : ∃ Z, Z = AnsB true w := ⟨_, rfl⟩
  rw [← hZ]
  have hq' := Lib.hid hq
  have hB' := Lib.hid hB
  have hqB' := Lib.hid hqB
  unfold ConfV.cells at hW1
  have hW1' := Lib.hid hW1
  have hfin := Lib.hid (fun W (ho : Only (fun k => B ≤ k) W1 W) => show Z (.returned (.bool true)) W from by rw [hZ]; exact ⟨rfl, (hb.out W ho).2.2⟩)
  obtain ⟨cv, hcv⟩ : ∃ cv, cv = c.val := ⟨_, rfl⟩
  have cright := Lib.hid (fun W (ho : Only (fun k => B ≤ k) W1 W) => show Calls Try.prog 18 #[cv] W (GrowB (rightB ts) W) from by rw [hcv]; exact right_any (hb.out W ho).2.1 hn'.out)
  have cgroups := Lib.hid (fun W (ho : Only (fun k => B ≤ k) W1 W) => show Calls Try.prog 21 #[cv] W (GrpEnd W (grpL ts)) from by rw [hcv]; exact groups_any (hb.out W ho).2.1 hn'.out)
  have ccan := Lib.hid (fun W (ho : Only (fun k => B ≤ k) W1 W) (i k : Nat) (hi : i < ts.length) (hk : k < ts.length) => show Calls Try.prog 24 #[cv, .int .i64 (i : Int), .int .i64 (k : Int)] W (GrowB (canB ts i k) W) from by
    rw [hcv, ← canZ_in hi hk]; exact can_any (hb.out W ho).2.1 hn'.out _ _)
  have hcx := Lib.hid (fun W (ho : Only (fun k => B ≤ k) W1 W) => cx_of (hb.out W ho).1)
  have htk := Lib.hid (fun W (ho : Only (fun k => B ≤ k) W1 W) (i : Nat) (hi : i < ts.length) => show ∃ b off, c.ta.A = some ⟨b, off, none⟩ ∧ b < W.heap.size ∧ W.cell? ⟨b, off + i * 7, none⟩ = some (.int .i64 (prio ts i)) ∧ W.cell? ⟨b, off + i * 7 + 1, none⟩ = some (.int .i64 (thr ts i)) from by
    obtain ⟨t, ht⟩ : ∃ t, ts[i]? = some t := ⟨_, List.getElem?_eq_getElem hi⟩
    obtain ⟨b, off, hA, hl, hC⟩ := (hb.out W ho).2.1.at_ i t ht
    exact ⟨b, off, hA, hl, by rw [prio_at ht]; exact hC.c0, by rw [thr_at ht]; exact hC.c1⟩)
  rw [← hcv]
  unfold ConfV.val at hcv
  subst hcv
  unfold CX at hcx
  clear hT hn hZ hq hO1 b0 hW1 hB hqB hwB
  obtain ⟨s0, wy0, h0, mi0, ⟨mA, mn, mc⟩, g0, ⟨cA, cn, cc⟩, ⟨eA, en, ec⟩, ⟨tA, tn, tc⟩, ⟨lA, ln, lc⟩⟩ := c
  dsimp only at *
  obtain ⟨RB, hRB⟩ : ∃ RB, RB = rightB ts := ⟨_, rfl⟩
  rw [← hRB] at cright
  go_enter Try.func8, Try.ntmps8
  go_wp2_with fail
  rw [← hW1'.out]
  rw [← hq'.out]
  refine (fixed26_any W1).mono ?_
  rintro e w2 ⟨rfl, ho⟩
  have hO2 := Lib.hid (ho.mono (T := fun k => B ≤ k) (fun _ _ h => h.elim))
  clear ho
  obtain ⟨d0, d1, d2, d3, d4, d5, d6, d7, d8, d9, dl⟩ := hcx.out w2 hO2.out
  by_cases h20 : (20 : Int) < tn
  · clear hRB
    go_wp2
    exact hfin.out w2 hO2.out
  go_wp2_with fail
  refine (cright.out w2 hO2.out).mono ?_
  rintro e w3 ⟨rfl, ho⟩
  have hO3 := Lib.hid (hO2.out.trans ho (fun _ _ h => h.elim))
  clear ho d0 d1 d2 d3 d4 d5 d6 d7 d8 d9 dl
  cases RB
  · clear hRB
    go_wp2
    exact hfin.out w3 hO3.out
  have hinv := Lib.hid (ginv_all hRB.symm)
  have hord := Lib.hid (show ∀ i, i < ts.length → i ∈ ordL ts from fun i hi => by rw [ordL, if_pos hRB.symm]; exact order_has hi)
  have hnd := Lib.hid (show (grpL ts).flatten.Nodup from by
    rw [hinv.out.perm.nodup_iff, ordL, if_pos hRB.symm]; exact order_nodup _ _)
  have hbd := Lib.hid (groups_bd (ts := ts) (pre := ordL ts) (List.prefix_refl _))
  have htn : tn ≤ 12 := by have := (right_facts hRB.symm).1; have := hlen.out; omega
  clear hRB h20
  obtain ⟨d0, d1, d2, d3, d4, d5, d6, d7, d8, d9, dl⟩ := hcx.out w3 hO3.out
  have hmk := fun (W : World) => run_make_list (P := Try.prog) W 54 4 (.bool false) 1 Try.underlying54 info4 rfl tn (by omega) (by omega)
  go_wp2_with fail
  obtain ⟨sg, hsg⟩ : ∃ sg, sg = w3.heap.size := ⟨_, rfl⟩
  obtain ⟨W4, hW4⟩ : ∃ W4, W4 = w3.alloc (.cells (Array.replicate tn (Value.bool false)) 4) := ⟨_, rfl⟩
  rw [← hW4]
  rw [← hsg]
  have hO4 : Only (fun k => B ≤ k) W1 W4 := by rw [hW4]; exact hO3.out.alloc _
  have hsg4 : W4.heap[sg]? = some (.cells (seenL tn []).toArray 4 (0, 0)) := by rw [hW4, ← seenL_nil, List.toArray_replicate]; exact heap_new_at _ _ hsg.symm
  have hBsg : B ≤ sg := by rw [hsg, hB'.out]; exact hO3.out.size
  have hsgl := row_lt hsg4
  refine (cgroups.out W4 hO4).mono ?_
  rintro e w5 ⟨p, gc, hgo, V, H, rfl, hG, ho⟩
  have hO5 := Lib.hid (hO4.trans ho (fun _ _ h => h.elim))
  have hs5 := Lib.hid (ho.heap hsg4 (fun h => h))
  have hOn := Lib.hid (fun W (hO : Only (fun k => k = sg) w5 W) => show Only (fun k => B ≤ k) W1 W from hO5.out.trans hO (fun x hx e => by omega))
  have hGn := Lib.hid (fun W (hO : Only (fun k => k = sg) w5 W) => show GrpAt W W4.heap.size p gc hgo V H (grpL ts) from hG.kept hO (fun b hb e => by have := hG.ofresh b hb; omega) (fun j b hj hb e => by have := (hG.fresh j b hj hb).1; omega))
  obtain ⟨gs, hgs⟩ : ∃ gs, gs = grpL ts := ⟨_, rfl⟩
  rw [← hgs] at hinv hnd hGn ⊢
  unfold grpL at hgs
  rw [← hgs] at hbd
  obtain ⟨gn, hgn⟩ : ∃ gn, gn = gs.length := ⟨_, rfl⟩
  rw [← hgn]
  have hgn12 : gn ≤ 12 := by rw [hgn]; exact hbd.out.1
  have hgn' := Lib.hid hgn
  clear ho hG hW4 hsg hO4 hsg4 hBsg hsgl hgs hgn hmk cgroups cright d0 d1 d2 d3 d4 d5 d6 d7 d8 d9 dl
  go_wp2
  go_loopw [5, 6, 7, 8, 10, 12, 13, 15, 37] (fun _ _ _ _ _ _ _ _ i wr => ∃ g : Nat, i = .int .i64 g ∧ g ≤ gn ∧ Hid (wr.heap[sg]? = some (.cells (seenL tn (vis gs g [])).toArray 4 (0, 0))) ∧ Hid (Only (fun k => k = sg) w5 wr)) (fun _ _ _ _ _ _ _ _ i _ => gn - (intOf i).toNat)
  case atStart => exact ⟨0, rfl, Nat.zero_le _, hs5, Lib.hid (Only.refl _ _)⟩
  case round =>
    obtain ⟨g, rfl, hg, hs, hOr⟩ := hrel
    obtain ⟨ws, hws⟩ : ∃ ws : World, ws = wr := ⟨_, rfl⟩
    subst hws
    by_cases hgg : g < gn
    · have hgg' : (g : Int) < gn := by omega
      obtain ⟨L, hL⟩ : ∃ L, gs[g]? = some L := ⟨_, List.getElem?_eq_getElem (by have := hgn'.out; omega)⟩
      obtain ⟨A, cL, hV, -⟩ := (hGn.out ws hOr.out).row g L hL
      obtain ⟨go, goff, gcc, _, hv, hgcc, _, hgl, hcell, _⟩ := (hGn.out ws hOr.out).o.at_ (by have := hgn'.out; omega)
      simp only [Value.slice.injEq] at hv
      obtain ⟨rfl, -, rfl⟩ := hv
      have cg := hcell g _ hV
      have hgc : (g : Int) ≤ gc := by have := hgn'.out; omega
      have hL12 : L.length ≤ 12 := (hbd.out.2 L (List.mem_of_getElem? hL)).1
      have hLt := Lib.hid (hbd.out.2 L (List.mem_of_getElem? hL)).2
      have hV' := Lib.hid hV
      have hL' := Lib.hid hL
      clear hcell hV hL
      obtain ⟨ln2, hln2⟩ : ∃ ln2, ln2 = L.length := ⟨_, rfl⟩
      rw [← hln2] at cg hL12
      have hln' := Lib.hid hln2
      clear hln2
      go_wp2
      go_loopw [7, 8, 10, 12, 13, 15, 44] (fun _ _ _ _ _ _ i wr => ∃ m : Nat, i = .int .i64 m ∧ m ≤ ln2 ∧ Hid (wr.heap[sg]? = some (.cells (seenL tn (vis gs g (L.take m))).toArray 4 (0, 0))) ∧ Hid (Only (fun k => k = sg) w5 wr)) (fun _ _ _ _ _ _ i _ => ln2 - (intOf i).toNat)
      case atStart => exact ⟨0, rfl, Nat.zero_le _, hs, hOr⟩
      case round =>
        obtain ⟨m, rfl, hm, hs, hOr⟩ := hrel
        obtain ⟨ws, hws⟩ : ∃ ws : World, ws = wr := ⟨_, rfl⟩
        subst hws
        by_cases hmm : m < ln2
        · have hmm' : (m : Int) < ln2 := by omega
          obtain ⟨x, hx⟩ : ∃ x, L[m]? = some x := ⟨_, List.getElem?_eq_getElem (by have := hln'.out; omega)⟩
          have hxl : x < ts.length := hLt.out x (List.mem_of_getElem? hx)
          have hxn : x < tn := by rw [← hlen.out]; exact hxl
          have hxn' : (x : Int) < tn := by omega
          have hx0 : ¬ (x : Int) < 0 := by omega
          obtain ⟨A', cL', hV2, hWL⟩ := (hGn.out ws hOr.out).row g L hL'.out
          rw [hV'.out] at hV2
          cases hV2
          obtain ⟨gl, loff, rfl, -, -⟩ := cell_at hWL (dat_at hx)
          have hLc := Lib.hid (fun W (hO : Only (fun k => k = sg) w5 W) (m' y : Nat) (hy : L[m']? = some y) => show W.cell? ⟨gl, loff + m', none⟩ = some (.int .i64 (y : Int)) ∧ gl < W.heap.size from by
            obtain ⟨A', cL', hV2, hWL⟩ := (hGn.out W hO).row g L hL'.out
            rw [hV'.out] at hV2
            cases hV2
            obtain ⟨g', off', hA, hc, hl⟩ := cell_at hWL (dat_at hy)
            cases hA
            exact ⟨hc, hl⟩)
          clear hWL
          obtain ⟨cx, cxl⟩ := hLc.out ws hOr.out m x hx
          have cs := row_cell hs.out (seenL_at hxn)
          rw [decide_eq_false (vis_new hnd.out hL'.out hx)] at cs
          have cf := row_free hs.out x
          have cl := row_lt hs.out
          have hset0 := row_set hs.out x (.bool true)
          rw [seenL_set hxn, ← vis_step hx] at hset0
          obtain ⟨T, hT⟩ : ∃ T, T = L.take (m + 1) := ⟨_, rfl⟩
          rw [← hT] at hset0
          have hTT := Lib.hid hT
          clear hT
          have hset := Lib.hid hset0
          have hso := Lib.hid (hOr.out.trans' ((Only.refl (fun k => k = sg) ws).setCell (p := ⟨sg, x, none⟩) (fun _ => rfl) (.bool true)))
          obtain ⟨tb, toff, htA, -, -, -⟩ := htk.out ws (hOn.out ws hOr.out) x hxl
          subst htA
          have htc := Lib.hid (fun W (ho : Only (fun k => k = sg) w5 W) (i : Nat) (hi : i < ts.length) => show tb < W.heap.size ∧ W.cell? ⟨tb, toff + i * 7, none⟩ = some (.int .i64 (prio ts i)) ∧ W.cell? ⟨tb, toff + i * 7 + 1, none⟩ = some (.int .i64 (thr ts i)) from by
            obtain ⟨b, off, h1, h2, h3, h4⟩ := htk.out W (hOn.out W ho) i hi
            cases h1
            exact ⟨h2, h3, h4⟩)
          obtain ⟨-, -, -, -, -, -, -, -, d8, -, dl⟩ := hcx.out ws (hOn.out ws hOr.out)
          have hx' := Lib.hid hx
          clear hset0 hx
          go_wp2_with fail
          obtain ⟨W6, hW6⟩ : ∃ W6, W6 = ws.setCell ⟨sg, x, none⟩ (.bool true) := ⟨_, rfl⟩
          rw [← hW6] at hset hso ⊢
          clear hW6 cs cf cl cx cxl d8 dl
          obtain ⟨-, -, -, -, -, -, -, -, d8, -, dl⟩ := hcx.out W6 (hOn.out W6 hso.out)
          obtain ⟨tl, tx0, -⟩ := htc.out W6 hso.out x hxl
          have p8 := wd_cell d8
          have px := wd_cell tx0
          have hex := wd_ex W6
          have hxl' := Lib.hid hxl
          have hcase : m = 0 ∨ ∃ m' y, m = m' + 1 ∧ L[m']? = some y ∧ prio ts x < prio ts y := by
            cases m with
            | zero => exact .inl rfl
            | succ m' =>
              have hm1 : m' + 1 < L.length := (List.getElem?_eq_some_iff.1 hx'.out).1
              refine .inr ⟨m', L[m'], rfl, List.getElem?_eq_getElem _, ?_⟩
              have := (List.pairwise_iff_getElem.1 (hinv.out.dec L (List.mem_of_getElem? hL'.out))) m' (m' + 1) (by omega) hm1 (by omega)
              rwa [(List.getElem?_eq_some_iff.1 hx'.out).2] at this
          rcases hcase with hm0 | ⟨m', y, hm1, hy, hxy⟩
          · have hq0 : decide ((0 : Int) < (m : Int)) = false := decide_eq_false (by omega)
            have hq2 : decide (0 < m) = false := decide_eq_false (by omega)
            clear hm0
            refine wp_region_wd (by kernel_rfl) (by kernel_rfl) ?_
            repeat (go_big_quiet_step (fail))
            refine wpQuiet_nil ?_
            rintro _ ⟨v, rfl⟩
            have hO7 := Lib.hid (hso.out.trans v.ok (fun _ _ h => h.elim))
            have hs7 := Lib.hid (v.ok.heap hset.out (fun h => h))
            obtain ⟨w7, hw7⟩ : ∃ w7, w7 = v.W := ⟨_, rfl⟩
            rw [← hw7] at hO7 hs7 ⊢
            clear hw7 p8 px hex d8 dl tl tx0 hset hso
            go_wp2
            go_loopw [10, 90] (fun _ i wr => ∃ m2 : Nat, i = .int .i64 m2 ∧ m2 ≤ ln2 ∧ Hid (wr.heap[sg]? = some (.cells (seenL tn (vis gs g T)).toArray 4 (0, 0))) ∧ Hid (Only (fun k => k = sg) w5 wr)) (fun _ i _ => ln2 - (intOf i).toNat)
            case atStart => exact ⟨0, rfl, Nat.zero_le _, hs7, hO7⟩
            case round =>
              obtain ⟨m2, rfl, hm2, hs, hOr⟩ := hrel
              obtain ⟨ws, hws⟩ : ∃ ws : World, ws = wr := ⟨_, rfl⟩
              subst hws
              by_cases h2 : m2 < ln2
              · have h2' : (m2 : Int) < ln2 := by omega
                obtain ⟨x2, hx2⟩ : ∃ x2, L[m2]? = some x2 := ⟨_, List.getElem?_eq_getElem (by have := hln'.out; omega)⟩
                obtain ⟨c2, c2l⟩ := hLc.out ws hOr.out m2 x2 hx2
                have hcc0 := ccan.out ws (hOn.out ws hOr.out) x x2 hxl'.out (hLt.out x2 (List.mem_of_getElem? hx2))
                rw [hinv.out.free L (List.mem_of_getElem? hL'.out) x (List.mem_of_getElem? hx'.out) x2 (List.mem_of_getElem? hx2)] at hcc0
                have hcc := Lib.hid hcc0
                obtain ⟨d0, d1, d2, d3, d4, d5, d6, d7, d8, d9, dl⟩ := hcx.out ws (hOn.out ws hOr.out)
                clear hx2 hcc0
                go_wp2_with fail
                refine hcc.out.mono ?_
                rintro e w8 ⟨rfl, ho⟩
                have hs8 := Lib.hid (ho.heap hs.out (fun h => h))
                have hO8 := Lib.hid (hOr.out.trans ho (fun _ _ h => h.elim))
                clear ho hcc d0 d1 d2 d3 d4 d5 d6 d7 d8 d9 dl c2 c2l
                go_wp2
                go_roundw
                case rel => exact ⟨m2 + 1, by go_num, by omega, hs8, hO8⟩
                case measure => simp [intOf]; omega
              · obtain rfl : m2 = ln2 := by omega
                go_wp2
                go_loopw [12, 13, 15, 103] (fun _ _ _ i wr => ∃ e : Nat, i = .int .i64 e ∧ e ≤ g ∧ Hid (wr.heap[sg]? = some (.cells (seenL tn (vis gs g T)).toArray 4 (0, 0))) ∧ Hid (Only (fun k => k = sg) w5 wr)) (fun _ _ _ i _ => g - (intOf i).toNat)
                case atStart => exact ⟨0, rfl, Nat.zero_le _, hs, hOr⟩
                case round =>
                  obtain ⟨e, rfl, he, hs, hOr⟩ := hrel
                  obtain ⟨ws, hws⟩ : ∃ ws : World, ws = wr := ⟨_, rfl⟩
                  subst hws
                  by_cases hee : e < g
                  · have hee' : (e : Int) < g := by omega
                    obtain ⟨M, hM⟩ : ∃ M, gs[e]? = some M := ⟨_, List.getElem?_eq_getElem (by have := hgn'.out; omega)⟩
                    obtain ⟨A2, c2, hV2, -⟩ := (hGn.out ws hOr.out).row e M hM
                    obtain ⟨go2, goff2, hA2, cg2, cgl2⟩ := cell_at (hGn.out ws hOr.out).o hV2
                    cases hA2
                    have hM12 : M.length ≤ 12 := (hbd.out.2 M (List.mem_of_getElem? hM)).1
                    have hMt := Lib.hid (hbd.out.2 M (List.mem_of_getElem? hM)).2
                    have hany := Lib.hid (show M.any (fun k => goodB ts k x) = true from List.any_eq_true.2 (hinv.out.ear e g M L hee hM hL'.out x (List.mem_of_getElem? hx'.out)))
                    have hM' := Lib.hid hM
                    have hV2' := Lib.hid hV2
                    clear hM hV2
                    obtain ⟨mn2, hmn⟩ : ∃ mn2, mn2 = M.length := ⟨_, rfl⟩
                    rw [← hmn] at cg2 hM12
                    have hmn' := Lib.hid hmn
                    clear hmn
                    go_wp2
                    go_loopw [13, 15, 109] (fun u13 _ i wr => ∃ r : Nat, i = .int .i64 r ∧ r ≤ mn2 ∧ u13 = .bool ((M.take r).any fun k => goodB ts k x) ∧ Hid (wr.heap[sg]? = some (.cells (seenL tn (vis gs g T)).toArray 4 (0, 0))) ∧ Hid (Only (fun k => k = sg) w5 wr)) (fun _ _ i _ => mn2 - (intOf i).toNat)
                    case atStart => exact ⟨0, rfl, Nat.zero_le _, rfl, hs, hOr⟩
                    case round =>
                      obtain ⟨r, rfl, hr, rfl, hs, hOr⟩ := hrel
                      obtain ⟨ws, hws⟩ : ∃ ws : World, ws = wr := ⟨_, rfl⟩
                      subst hws
                      obtain ⟨Bc, hBc⟩ : ∃ Bc, Bc = ((M.take r).any fun k => goodB ts k x) := ⟨_, rfl⟩
                      rw [← hBc]
                      by_cases hrr : r < mn2
                      · have hrr' : (r : Int) < mn2 := by omega
                        obtain ⟨k3, hk3⟩ : ∃ k3, M[r]? = some k3 := ⟨_, List.getElem?_eq_getElem (by have := hmn'.out; omega)⟩
                        have hk3l : k3 < ts.length := hMt.out k3 (List.mem_of_getElem? hk3)
                        have hk3n : (k3 : Int) < tn := by have := hlen.out; omega
                        obtain ⟨A3, c3, hV3, hWM⟩ := (hGn.out ws hOr.out).row e M hM'.out
                        rw [hV2'.out] at hV3
                        cases hV3
                        obtain ⟨gm, moff, rfl, cm, cml⟩ := cell_at hWM (dat_at hk3)
                        obtain ⟨tl, k0, k1⟩ := htc.out ws hOr.out k3 hk3l
                        obtain ⟨-, x0, x1⟩ := htc.out ws hOr.out x hxl'.out
                        obtain ⟨-, -, -, -, -, -, -, -, d8, -, dl⟩ := hcx.out ws (hOn.out ws hOr.out)
                        have hsn := any_snoc (f := fun k => goodB ts k x) hk3
                        rw [← hBc, goodB_val] at hsn
                        obtain ⟨An, hAn⟩ : ∃ An, An = ((M.take (r + 1)).any fun k => goodB ts k x) := ⟨_, rfl⟩
                        rw [← hAn] at hsn
                        have hAn' := Lib.hid hAn
                        obtain ⟨pk, hpk⟩ : ∃ pk, pk = prio ts k3 := ⟨_, rfl⟩
                        obtain ⟨px, hpx⟩ : ∃ px, px = prio ts x := ⟨_, rfl⟩
                        obtain ⟨tk, htk3⟩ : ∃ tk, tk = thr ts k3 := ⟨_, rfl⟩
                        obtain ⟨tx, htx⟩ : ∃ tx, tx = thr ts x := ⟨_, rfl⟩
                        rw [← hpk, ← hpx, ← htk3, ← htx] at hsn
                        rw [← hpk] at k0
                        rw [← htk3] at k1
                        rw [← hpx] at x0
                        rw [← htx] at x1
                        have p8 := wd_cell d8
                        have pk0 := wd_cell k0
                        have pk1 := wd_cell k1
                        have px0 := wd_cell x0
                        have px1 := wd_cell x1
                        have hex := wd_ex ws
                        have hcs : (Bc = true ∧ An = true) ∨ (Bc = false ∧ decide (px < pk) = false ∧ An = false) ∨ (Bc = false ∧ decide (px < pk) = true ∧ decide (tx < pk) = true ∧ An = true) ∨ (Bc = false ∧ decide (px < pk) = true ∧ decide (tx < pk) = false ∧ decide (tk < px) = true ∧ An = true) ∨ (Bc = false ∧ decide (px < pk) = true ∧ decide (tx < pk) = false ∧ decide (tk < px) = false ∧ An = false) := by
                          rw [hsn]
                          cases Bc <;> cases decide (px < pk) <;> cases decide (tx < pk) <;> cases decide (tk < px) <;> simp
                        clear hsn hAn hpk hpx htk3 htx hBc hk3 hWM d8 k0 k1 x0 x1
                        rcases hcs with ⟨rfl, rfl⟩ | ⟨rfl, y1, rfl⟩ | ⟨rfl, y1, y2, rfl⟩ | ⟨rfl, y1, y2, y3, rfl⟩ | ⟨rfl, y1, y2, y3, rfl⟩
                        all_goals
                          go_wp2_with fail
                          refine wp_region_wd (by kernel_rfl) (by kernel_rfl) ?_
                          repeat (go_big_quiet_step (fail))
                          refine wpQuiet_nil ?_
                          rintro _ ⟨v, rfl⟩
                          have hs8 := Lib.hid (v.ok.heap hs.out (fun h => h))
                          have hO8 := Lib.hid (hOr.out.trans v.ok (fun _ _ h => h.elim))
                          obtain ⟨w8, hw8⟩ : ∃ w8, w8 = v.W := ⟨_, rfl⟩
                          rw [← hw8] at hs8 hO8 ⊢
                          clear hw8 p8 pk0 pk1 px0 px1 hex
                          go_wp2
                          go_roundw
                          case rel => exact ⟨r + 1, by go_num, by omega, congrArg Value.bool hAn'.out, hs8, hO8⟩
                          case measure => simp [intOf]; omega
                      · obtain rfl : r = mn2 := by omega
                        have hBt : Bc = true := by rw [hBc, hmn'.out, List.take_length]; exact hany.out
                        clear hBc
                        subst hBt
                        go_wp2
                        go_roundw
                        case rel => exact ⟨e + 1, by go_num, by omega, hs, hOr⟩
                        case measure => simp [intOf]; omega
                  · obtain rfl : e = g := by omega
                    go_wp2
                    go_roundw
                    case rel => exact ⟨m + 1, by go_num, by omega, by rw [← hTT.out]; exact hs, hOr⟩
                    case measure => simp [intOf]; omega
          · have hyl : y < ts.length := hLt.out y (List.mem_of_getElem? hy)
            have hyn' : (y : Int) < tn := by have := hlen.out; omega
            obtain ⟨cy, cyl⟩ := hLc.out W6 hso.out m' y hy
            obtain ⟨-, ty0, -⟩ := htc.out W6 hso.out y hyl
            have py := wd_cell ty0
            have pc := wd_cell cy
            have hwm : IntKind.i64.wrap ((m : Int) - 1) = (m' : Int) := by rw [IntWalk.i64_in _ (by omega)]; omega
            have hq0 : decide ((0 : Int) < (m : Int)) = true := decide_eq_true (by omega)
            have hq2 : decide (0 < m) = true := decide_eq_true (by omega)
            have hq1 : decide (prio ts y ≤ prio ts x) = false := decide_eq_false (by omega)
            have hm'' : (m' : Int) < ln2 := by omega
            clear hy hm1
            refine wp_region_wd (by kernel_rfl) (by kernel_rfl) ?_
            repeat (go_big_quiet_step (fail))
            refine wpQuiet_nil ?_
            rintro _ ⟨v, rfl⟩
            have hO7 := Lib.hid (hso.out.trans v.ok (fun _ _ h => h.elim))
            have hs7 := Lib.hid (v.ok.heap hset.out (fun h => h))
            obtain ⟨w7, hw7⟩ : ∃ w7, w7 = v.W := ⟨_, rfl⟩
            rw [← hw7] at hO7 hs7 ⊢
            clear hw7 p8 px hex d8 dl tl tx0 hset hso
            go_wp2
            go_loopw [10, 90] (fun _ i wr => ∃ m2 : Nat, i = .int .i64 m2 ∧ m2 ≤ ln2 ∧ Hid (wr.heap[sg]? = some (.cells (seenL tn (vis gs g T)).toArray 4 (0, 0))) ∧ Hid (Only (fun k => k = sg) w5 wr)) (fun _ i _ => ln2 - (intOf i).toNat)
            case atStart => exact ⟨0, rfl, Nat.zero_le _, hs7, hO7⟩
            case round =>
              obtain ⟨m2, rfl, hm2, hs, hOr⟩ := hrel
              obtain ⟨ws, hws⟩ : ∃ ws : World, ws = wr := ⟨_, rfl⟩
              subst hws
              by_cases h2 : m2 < ln2
              · have h2' : (m2 : Int) < ln2 := by omega
                obtain ⟨x2, hx2⟩ : ∃ x2, L[m2]? = some x2 := ⟨_, List.getElem?_eq_getElem (by have := hln'.out; omega)⟩
                obtain ⟨c2, c2l⟩ := hLc.out ws hOr.out m2 x2 hx2
                have hcc0 := ccan.out ws (hOn.out ws hOr.out) x x2 hxl'.out (hLt.out x2 (List.mem_of_getElem? hx2))
                rw [hinv.out.free L (List.mem_of_getElem? hL'.out) x (List.mem_of_getElem? hx'.out) x2 (List.mem_of_getElem? hx2)] at hcc0
                have hcc := Lib.hid hcc0
                obtain ⟨d0, d1, d2, d3, d4, d5, d6, d7, d8, d9, dl⟩ := hcx.out ws (hOn.out ws hOr.out)
                clear hx2 hcc0
                go_wp2_with fail
                refine hcc.out.mono ?_
                rintro e w8 ⟨rfl, ho⟩
                have hs8 := Lib.hid (ho.heap hs.out (fun h => h))
                have hO8 := Lib.hid (hOr.out.trans ho (fun _ _ h => h.elim))
                clear ho hcc d0 d1 d2 d3 d4 d5 d6 d7 d8 d9 dl c2 c2l
                go_wp2
                go_roundw
                case rel => exact ⟨m2 + 1, by go_num, by omega, hs8, hO8⟩
                case measure => simp [intOf]; omega
              · obtain rfl : m2 = ln2 := by omega
                go_wp2
                go_loopw [12, 13, 15, 103] (fun _ _ _ i wr => ∃ e : Nat, i = .int .i64 e ∧ e ≤ g ∧ Hid (wr.heap[sg]? = some (.cells (seenL tn (vis gs g T)).toArray 4 (0, 0))) ∧ Hid (Only (fun k => k = sg) w5 wr)) (fun _ _ _ i _ => g - (intOf i).toNat)
                case atStart => exact ⟨0, rfl, Nat.zero_le _, hs, hOr⟩
                case round =>
                  obtain ⟨e, rfl, he, hs, hOr⟩ := hrel
                  obtain ⟨ws, hws⟩ : ∃ ws : World, ws = wr := ⟨_, rfl⟩
                  subst hws
                  by_cases hee : e < g
                  · have hee' : (e : Int) < g := by omega
                    obtain ⟨M, hM⟩ : ∃ M, gs[e]? = some M := ⟨_, List.getElem?_eq_getElem (by have := hgn'.out; omega)⟩
                    obtain ⟨A2, c2, hV2, -⟩ := (hGn.out ws hOr.out).row e M hM
                    obtain ⟨go2, goff2, hA2, cg2, cgl2⟩ := cell_at (hGn.out ws hOr.out).o hV2
                    cases hA2
                    have hM12 : M.length ≤ 12 := (hbd.out.2 M (List.mem_of_getElem? hM)).1
                    have hMt := Lib.hid (hbd.out.2 M (List.mem_of_getElem? hM)).2
                    have hany := Lib.hid (show M.any (fun k => goodB ts k x) = true from List.any_eq_true.2 (hinv.out.ear e g M L hee hM hL'.out x (List.mem_of_getElem? hx'.out)))
                    have hM' := Lib.hid hM
                    have hV2' := Lib.hid hV2
                    clear hM hV2
                    obtain ⟨mn2, hmn⟩ : ∃ mn2, mn2 = M.length := ⟨_, rfl⟩
                    rw [← hmn] at cg2 hM12
                    have hmn' := Lib.hid hmn
                    clear hmn
                    go_wp2
                    go_loopw [13, 15, 109] (fun u13 _ i wr => ∃ r : Nat, i = .int .i64 r ∧ r ≤ mn2 ∧ u13 = .bool ((M.take r).any fun k => goodB ts k x) ∧ Hid (wr.heap[sg]? = some (.cells (seenL tn (vis gs g T)).toArray 4 (0, 0))) ∧ Hid (Only (fun k => k = sg) w5 wr)) (fun _ _ i _ => mn2 - (intOf i).toNat)
                    case atStart => exact ⟨0, rfl, Nat.zero_le _, rfl, hs, hOr⟩
                    case round =>
                      obtain ⟨r, rfl, hr, rfl, hs, hOr⟩ := hrel
                      obtain ⟨ws, hws⟩ : ∃ ws : World, ws = wr := ⟨_, rfl⟩
                      subst hws
                      obtain ⟨Bc, hBc⟩ : ∃ Bc, Bc = ((M.take r).any fun k => goodB ts k x) := ⟨_, rfl⟩
                      rw [← hBc]
                      by_cases hrr : r < mn2
                      · have hrr' : (r : Int) < mn2 := by omega
                        obtain ⟨k3, hk3⟩ : ∃ k3, M[r]? = some k3 := ⟨_, List.getElem?_eq_getElem (by have := hmn'.out; omega)⟩
                        have hk3l : k3 < ts.length := hMt.out k3 (List.mem_of_getElem? hk3)
                        have hk3n : (k3 : Int) < tn := by have := hlen.out; omega
                        obtain ⟨A3, c3, hV3, hWM⟩ := (hGn.out ws hOr.out).row e M hM'.out
                        rw [hV2'.out] at hV3
                        cases hV3
                        obtain ⟨gm, moff, rfl, cm, cml⟩ := cell_at hWM (dat_at hk3)
                        obtain ⟨tl, k0, k1⟩ := htc.out ws hOr.out k3 hk3l
                        obtain ⟨-, x0, x1⟩ := htc.out ws hOr.out x hxl'.out
                        obtain ⟨-, -, -, -, -, -, -, -, d8, -, dl⟩ := hcx.out ws (hOn.out ws hOr.out)
                        have hsn := any_snoc (f := fun k => goodB ts k x) hk3
                        rw [← hBc, goodB_val] at hsn
                        obtain ⟨An, hAn⟩ : ∃ An, An = ((M.take (r + 1)).any fun k => goodB ts k x) := ⟨_, rfl⟩
                        rw [← hAn] at hsn
                        have hAn' := Lib.hid hAn
                        obtain ⟨pk, hpk⟩ : ∃ pk, pk = prio ts k3 := ⟨_, rfl⟩
                        obtain ⟨px, hpx⟩ : ∃ px, px = prio ts x := ⟨_, rfl⟩
                        obtain ⟨tk, htk3⟩ : ∃ tk, tk = thr ts k3 := ⟨_, rfl⟩
                        obtain ⟨tx, htx⟩ : ∃ tx, tx = thr ts x := ⟨_, rfl⟩
                        rw [← hpk, ← hpx, ← htk3, ← htx] at hsn
                        rw [← hpk] at k0
                        rw [← htk3] at k1
                        rw [← hpx] at x0
                        rw [← htx] at x1
                        have p8 := wd_cell d8
                        have pk0 := wd_cell k0
                        have pk1 := wd_cell k1
                        have px0 := wd_cell x0
                        have px1 := wd_cell x1
                        have hex := wd_ex ws
                        have hcs : (Bc = true ∧ An = true) ∨ (Bc = false ∧ decide (px < pk) = false ∧ An = false) ∨ (Bc = false ∧ decide (px < pk) = true ∧ decide (tx < pk) = true ∧ An = true) ∨ (Bc = false ∧ decide (px < pk) = true ∧ decide (tx < pk) = false ∧ decide (tk < px) = true ∧ An = true) ∨ (Bc = false ∧ decide (px < pk) = true ∧ decide (tx < pk) = false ∧ decide (tk < px) = false ∧ An = false) := by
                          rw [hsn]
                          cases Bc <;> cases decide (px < pk) <;> cases decide (tx < pk) <;> cases decide (tk < px) <;> simp
                        clear hsn hAn hpk hpx htk3 htx hBc hk3 hWM d8 k0 k1 x0 x1
                        rcases hcs with ⟨rfl, rfl⟩ | ⟨rfl, y1, rfl⟩ | ⟨rfl, y1, y2, rfl⟩ | ⟨rfl, y1, y2, y3, rfl⟩ | ⟨rfl, y1, y2, y3, rfl⟩
                        all_goals
                          go_wp2_with fail
                          refine wp_region_wd (by kernel_rfl) (by kernel_rfl) ?_
                          repeat (go_big_quiet_step (fail))
                          refine wpQuiet_nil ?_
                          rintro _ ⟨v, rfl⟩
                          have hs8 := Lib.hid (v.ok.heap hs.out (fun h => h))
                          have hO8 := Lib.hid (hOr.out.trans v.ok (fun _ _ h => h.elim))
                          obtain ⟨w8, hw8⟩ : ∃ w8, w8 = v.W := ⟨_, rfl⟩
                          rw [← hw8] at hs8 hO8 ⊢
                          clear hw8 p8 pk0 pk1 px0 px1 hex
                          go_wp2
                          go_roundw
                          case rel => exact ⟨r + 1, by go_num, by omega, congrArg Value.bool hAn'.out, hs8, hO8⟩
                          case measure => simp [intOf]; omega
                      · obtain rfl : r = mn2 := by omega
                        have hBt : Bc = true := by rw [hBc, hmn'.out, List.take_length]; exact hany.out
                        clear hBc
                        subst hBt
                        go_wp2
                        go_roundw
                        case rel => exact ⟨e + 1, by go_num, by omega, hs, hOr⟩
                        case measure => simp [intOf]; omega
                  · obtain rfl : e = g := by omega
                    go_wp2
                    go_roundw
                    case rel => exact ⟨m + 1, by go_num, by omega, by rw [← hTT.out]; exact hs, hOr⟩
                    case measure => simp [intOf]; omega
        · obtain rfl : m = ln2 := by omega
          have hnx := Lib.hid (vis_next hL'.out)
          rw [← hln'.out] at hnx
          go_wp2
          go_roundw
          case rel => exact ⟨g + 1, by go_num, by omega, by rw [hnx.out]; exact hs, hOr⟩
          case measure => simp [intOf]; omega
    · obtain rfl : g = gn := by omega
      have hall := Lib.hid (show ∀ s, s < tn → s ∈ vis gs g [] from fun s hs => by
        unfold vis
        rw [List.append_nil, hgn'.out, List.take_length]
        exact hinv.out.perm.mem_iff.2 (hord.out s (by rw [hlen.out]; exact hs)))
      go_wp2
      go_loopw [17, 167] (fun _ i wr => ∃ s : Nat, i = .int .i64 s ∧ s ≤ tn ∧ Hid (wr.heap[sg]? = some (.cells (seenL tn (vis gs g [])).toArray 4 (0, 0))) ∧ Hid (Only (fun k => k = sg) w5 wr)) (fun _ i _ => tn - (intOf i).toNat)
      case atStart => exact ⟨0, rfl, Nat.zero_le _, hs, hOr⟩
      case round =>
        obtain ⟨s, rfl, hsn, hs, hOr⟩ := hrel
        obtain ⟨ws, hws⟩ : ∃ ws : World, ws = wr := ⟨_, rfl⟩
        subst hws
        by_cases hss : s < tn
        · have hss' : (s : Int) < tn := by omega
          have cs := row_cell hs.out (seenL_at hss)
          rw [decide_eq_true (hall.out s hss)] at cs
          have cl := row_lt hs.out
          go_wp2
          go_roundw
          case rel => exact ⟨s + 1, by go_num, by omega, hs, hOr⟩
          case measure => simp [intOf]; omega
        · obtain rfl : s = tn := by omega
          have hf := Lib.hid (hfin.out ws (hOn.out ws hOr.out))
          go_wp2
          exact hf.out
end Go.Proofs.Ytcgnboplpibcgaa
