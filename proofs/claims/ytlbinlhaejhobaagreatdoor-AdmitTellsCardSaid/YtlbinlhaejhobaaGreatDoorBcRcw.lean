/- chain: the reference's Chains, one call. -/
import Derived.Test.YtlbinlhaejhobaaGreatDoorBcRch26
import Derived.Test.YtlbinlhaejhobaaGreatDoorPO
namespace Go.Proofs.YtlbinlhaejhobaaGreatDoor
namespace Bch
open Go Go.RowKit Go.Maps Go.Shelf
/-- What is told behind the first m tasks. -/
def outC (ts : List TaskV) (a : Nat) (sub : Nat → List (List Nat)) (m : Nat) : List (List Nat) := [a] :: ((List.range m).filter fun i => canB ts i a).flatMap fun i => (sub i).map (a :: ·)
theorem outC_succ {ts : List TaskV} {a : Nat} {sub : Nat → List (List Nat)} {m : Nat} : outC ts a sub (m + 1) = if canB ts m a = true then outC ts a sub m ++ (sub m).map (a :: ·) else outC ts a sub m := by
  unfold outC
  rw [List.range_succ, List.filter_append, List.flatMap_append]
  split
  · next h => simp [h]
  · next h => simp [h]
theorem outC_len {ts : List TaskV} {a : Nat} {sub : Nat → List (List Nat)} {m B : Nat} (h : ∀ i, (sub i).length ≤ B) : (outC ts a sub m).length ≤ 1 + m * B := by
  unfold outC
  have h1 := flatMap_len (f := fun i => (sub i).map (a :: ·)) (m := B) (l := (List.range m).filter fun i => canB ts i a) (fun i _ => by rw [List.length_map]; exact h i)
  have h2 : ((List.range m).filter fun i => canB ts i a).length ≤ m := by
    have := List.length_filter_le (fun i => canB ts i a) (List.range m)
    rwa [List.length_range] at this
  have h4 := Nat.mul_le_mul_right B h2
  rw [List.length_cons]
  omega
def CY (W : World) (q : Nat) (c : ConfV) : Prop :=
  W.cell? ⟨q, 0, none⟩ = some (.int .i64 c.s) ∧ W.cell? ⟨q, 1, none⟩ = some (.int .i64 c.wy) ∧ W.cell? ⟨q, 2, none⟩ = some (.int .i64 c.h) ∧ W.cell? ⟨q, 3, none⟩ = some (.int .i64 c.mi) ∧ W.cell? ⟨q, 4, none⟩ = some (.slice c.mb.A c.mb.n c.mb.cap) ∧ W.cell? ⟨q, 5, none⟩ = some (.int .i64 c.g) ∧
  W.cell? ⟨q, 6, none⟩ = some (.slice c.cn.A c.cn.n c.cn.cap) ∧ W.cell? ⟨q, 7, none⟩ = some (.slice c.ce.A c.ce.n c.ce.cap) ∧ W.cell? ⟨q, 8, none⟩ = some (.slice c.ta.A c.ta.n c.ta.cap) ∧ W.cell? ⟨q, 9, none⟩ = some (.slice c.li.A c.li.n c.li.cap) ∧ q < W.heap.size
theorem cy_of {W : World} {q : Nat} {c : ConfV} (h : W.heap[q]? = some (.cells c.cells.toArray 27 (0, 0))) : CY W q c :=
  ⟨row_cell h (i := 0) rfl, row_cell h (i := 1) rfl, row_cell h (i := 2) rfl, row_cell h (i := 3) rfl, row_cell h (i := 4) rfl, row_cell h (i := 5) rfl, row_cell h (i := 6) rfl, row_cell h (i := 7) rfl, row_cell h (i := 8) rfl, row_cell h (i := 9) rfl, row_lt h⟩
set_option maxRecDepth 100000 in
set_option maxHeartbeats 4000000 in
theorem chain_step {w : World} {c : ConfV} {ts : List TaskV} (hT : TasksAt w c.ta ts) (hn : c.ta.n ≤ 9) {a : Nat} (ha : a < ts.length) {sub : Nat → List (List Nat)} (hl : ∀ i, (sub i).length ≤ 1000000000) (hll : ∀ i, ∀ M ∈ sub i, M.length ≤ 1000000)
    (hsub : ∀ i, i < ts.length → canB ts i a = true → ∀ W, Only (fun _ => False) w W → Calls Tryz.prog 54 #[c.val, .int .i64 (i : Int)] W (GrpEnd W (sub i))) : Calls Tryz.prog 54 #[c.val, .int .i64 (a : Int)] w (GrpEnd w (outC ts a sub ts.length)) := by
  obtain ⟨q, hq⟩ : ∃ q, q = w.heap.size := ⟨_, rfl⟩
  obtain ⟨W3, hW3⟩ : ∃ W3, W3 = ((w.alloc (.cells c.cells.toArray 27)).alloc (.cells #[.int .i64 (a : Int)] 3)).alloc (.cells #[.slice (some ⟨q + 1, 0, none⟩) 1 1] 24) := ⟨_, rfl⟩
  have hO3 : Only (fun _ => False) w W3 := by rw [hW3]; exact (((Only.refl _ w).alloc _).alloc _).alloc _
  have b0 : W3.heap[q]? = some (.cells c.cells.toArray 27 (0, 0)) := by rw [hW3]; exact heap_kept_alloc (heap_kept_alloc (heap_new_at _ _ hq.symm) _) _
  have b1 : W3.heap[q + 1]? = some (.cells #[.int .i64 (a : Int)] 3 (0, 0)) := by rw [hW3]; exact heap_kept_alloc (heap_new_at _ _ (by simp [hq])) _
  have b2 : W3.heap[q + 2]? = some (.cells #[.slice (some ⟨q + 1, 0, none⟩) 1 1] 24 (0, 0)) := by rw [hW3]; exact heap_new_at _ _ (by simp [hq])
  have hs3 : W3.heap.size = q + 3 := by rw [hW3, hq]; simp
  have hG0 := Lib.hid (GrpAt.one (base := q + 1) b1 b2 (by omega) (by omega) (by omega))
  have hb := Lib.hid (fun W (ho : Only (fun k => q + 1 ≤ k) W3 W) => show W.heap[q]? = some (.cells c.cells.toArray 27 (0, 0)) ∧ TasksAt W c.ta ts ∧ Only (fun _ => False) w W from by
    have hO : Only (fun _ => False) w W := hO3.trans ho (fun x hx e => by omega)
    exact ⟨ho.heap b0 (by omega), hT.new hO, hO⟩)
  have hlen := Lib.hid hT.len
  have hcy := Lib.hid (fun W (ho : Only (fun k => q + 1 ≤ k) W3 W) => cy_of (hb.out W ho).1)
  obtain ⟨cv, hcv⟩ : ∃ cv, cv = c.val := ⟨_, rfl⟩
  have csub := Lib.hid (fun W (ho : Only (fun k => q + 1 ≤ k) W3 W) (i : Nat) (hi : i < ts.length) (hc : canB ts i a = true) => show Calls Tryz.prog 54 #[cv, .int .i64 (i : Int)] W (GrpEnd W (sub i)) from by rw [hcv]; exact hsub i hi hc W (hb.out W ho).2.2)
  obtain ⟨Z, hZ⟩ : ∃ Z, Z = GrpEnd w (outC ts a sub ts.length) := ⟨_, rfl⟩
  rw [← hZ]
  have hZ' := Lib.hid hZ
  have hq' := Lib.hid hq
  have hs3' := Lib.hid hs3
  have hta := Lib.hid (fun W (ho : Only (fun k => q + 1 ≤ k) W3 W) (i : Nat) (hi : i < ts.length) => show ∃ b off t, c.ta.A = some ⟨b, off, none⟩ ∧ b < W.heap.size ∧ ts[i]? = some t ∧ TaskCells W b (off + i * 7) t from by
    obtain ⟨t, ht⟩ : ∃ t, ts[i]? = some t := ⟨_, List.getElem?_eq_getElem hi⟩
    obtain ⟨b, off, hA, hl, hC⟩ := (hb.out W ho).2.1.at_ i t ht
    exact ⟨b, off, t, hA, hl, ht, hC⟩)
  have hbig := Lib.hid (fun m => outC_len (ts := ts) (a := a) (sub := sub) (m := m) (B := 1000000000) hl)
  have hll' := Lib.hid hll
  have hl' := Lib.hid hl
  rw [← hcv]
  unfold ConfV.val at hcv
  subst hcv
  unfold CY at hcy
  unfold ConfV.cells at hW3
  have hW3' := Lib.hid hW3
  clear hT hsub hl hll hZ hq hO3 b0 b1 b2 hs3 hW3
  obtain ⟨s0, wy0, h0, mi0, ⟨mA, mn, mc⟩, g0, ⟨cA, cn, cc⟩, ⟨eA, en, ec⟩, ⟨tA, tn, tc⟩, ⟨lA, ln, lc⟩⟩ := c
  dsimp only at *
  have ha' : a < tn := by have := hlen.out; omega
  have hai : (a : Int) < tn := by omega
  obtain ⟨d0, d1, d2, d3, d4, d5, d6, d7, d8, d9, dl⟩ := hcy.out W3 (Only.refl _ _)
  go_enter Tryz.func54, Tryz.ntmps54
  go_upto_region 2 with fail
  rw [← hq'.out]
  rw [← hW3'.out]
  go_wp2
  go_loopw [5, 6, 7, 9, 16] (fun u5 _ _ _ i wr => ∃ (k : Nat) (p : Option Addr) (cap : Nat) (ho : Option Nat) (V : List Value) (H : Nat → Option Nat), i = .int .i64 k ∧ k ≤ tn ∧ u5 = .slice p (outC ts a sub k).length cap ∧ Hid (GrpAt wr (q + 1) p cap ho V H (outC ts a sub k)) ∧ Hid (Only (fun b => q + 1 ≤ b) W3 wr)) (fun _ _ _ _ i _ => tn - (intOf i).toNat)
  case atStart => exact ⟨0, _, 1, _, _, _, rfl, Nat.zero_le _, rfl, hG0, Lib.hid (Only.refl _ _)⟩
  case round =>
    obtain ⟨k, p, cap, ho, V, H, rfl, hk, rfl, hG, hOr⟩ := hrel
    obtain ⟨ws, hws⟩ : ∃ ws : World, ws = wr := ⟨_, rfl⟩
    subst hws
    obtain ⟨ol, hol⟩ : ∃ ol, ol = (outC ts a sub k).length := ⟨_, rfl⟩
    rw [← hol]
    have hol' := Lib.hid hol
    by_cases hkn : k < tn
    · have hkn' : (k : Int) < tn := by omega
      have hkl : k < ts.length := by rw [hlen.out]; exact hkn
      obtain ⟨b, off, t, rfl, hbl, ht, c0, c1, c2, c3, c4, c5, c6⟩ := hta.out ws hOr.out k hkl
      obtain ⟨b', off', u, hA', -, hu, -, e1, -⟩ := hta.out ws hOr.out a (by rw [hlen.out]; exact ha')
      cases hA'
      obtain ⟨-, -, -, -, -, -, -, -, d8, -, dl⟩ := hcy.out ws hOr.out
      have hcan : canB ts k a = decide (u.th < t.p) := by rw [canB, thr_at hu, prio_at ht]
      obtain ⟨tp, tth, tpe, tde, tfr, tfl, ⟨oA, on, oc⟩⟩ := t
      dsimp only at *
      clear ht hu hol
      go_wp2_with fail
      obtain ⟨w5, hw5⟩ : ∃ w5, w5 = ws.alloc (Obj.cells #[.int .i64 tp, .int .i64 tth, .int .i64 tpe, .int .i64 tde, .int .i64 tfr, .int .i64 tfl, .slice oA on oc] 49) := ⟨_, rfl⟩
      rw [← hw5]
      obtain ⟨Y, hY⟩ : ∃ Y, Y = ws.heap.size := ⟨_, rfl⟩
      rw [← hY]
      have hy5 : w5.heap[Y]? = some (.cells [Value.int .i64 tp, .int .i64 tth, .int .i64 tpe, .int .i64 tde, .int .i64 tfr, .int .i64 tfl, .slice oA on oc].toArray 49 (0, 0)) := by rw [hw5]; exact heap_new_at _ _ hY.symm
      have hO5 : Only (fun _ => False) ws w5 := by rw [hw5]; exact (Only.refl _ _).alloc _
      have p0 := wd_cell (row_cell hy5 (i := 0) rfl)
      have p1 := wd_cell (hO5.cell e1 (fun h => h))
      have p8 := wd_cell (hO5.cell d8 (fun h => h))
      have hex := wd_ex w5
      have hy5' := Lib.hid hy5
      have hO5' := Lib.hid hO5
      have hG5 := Lib.hid (hG.out.new hO5)
      have hO35 := Lib.hid (hOr.out.trans hO5 (fun _ _ h => h.elim))
      clear hY hw5 hy5 hO5 c0 c1 c2 c3 c4 c5 c6 e1 d8 dl
      by_cases hlt : u.th < tp
      · have hlf : decide (u.th < tp) = true := decide_eq_true hlt
        rw [hlf] at hcan
        clear hlt
        refine wp_region_wd (by kernel_rfl) (by kernel_rfl) ?_
        repeat (go_big_quiet_step (fail))
        refine wpQuiet_nil ?_
        rintro _ ⟨v, rfl⟩
        have hG6 := Lib.hid (hG5.out.new v.ok)
        have hO6 := Lib.hid (hO35.out.trans v.ok (fun _ _ h => h.elim))
        obtain ⟨w6, hw6⟩ : ∃ w6, w6 = v.W := ⟨_, rfl⟩
        rw [← hw6] at hG6 hO6 ⊢
        have hsu := Lib.hid (show outC ts a sub (k + 1) = outC ts a sub k ++ (sub k).map (a :: ·) by rw [outC_succ, if_pos hcan])
        have hcall := Lib.hid (csub.out w6 hO6.out k hkl hcan)
        obtain ⟨d0, d1, d2, d3, d4, d5, d6, d7, d8, d9, dl⟩ := hcy.out w6 hO6.out
        clear hw6 p0 p1 p8 hex hcan hlf
        go_wp2_with fail
        refine hcall.out.mono ?_
        rintro e w7 ⟨p7, c7, h7, V7, H7, rfl, hR, ho7⟩
        clear hcall d0 d1 d2 d3 d4 d5 d6 d7 d8 d9 dl
        have hG7 := Lib.hid (hG6.out.new ho7)
        have hO7 := Lib.hid (hO6.out.trans ho7 (fun _ _ h => h.elim))
        obtain ⟨RB, hRB⟩ : ∃ RB : Nat → Prop, RB = fun b => h7 = some b ∨ ∃ j, j < (sub k).length ∧ H7 j = some b := ⟨_, rfl⟩
        have hRBn : ∀ b, RB b → w6.heap.size ≤ b ∧ b < w7.heap.size := fun b hb => by
          rw [hRB] at hb
          rcases hb with hb | ⟨j, hj, hb⟩
          · exact ⟨hR.ofresh b hb, hR.o.lt b hb⟩
          · exact ⟨(hR.fresh j b hj hb).1, hR.lt hj hb⟩
        have hRk := Lib.hid (fun W (ho : Only (fun b => q + 1 ≤ b ∧ ¬ RB b) w7 W) => show GrpAt W w6.heap.size p7 c7 h7 V7 H7 (sub k) from hR.kept ho (fun b hb hx => hx.2 (by rw [hRB]; exact .inl hb)) (fun j b hj hb hx => hx.2 (by rw [hRB]; exact .inr ⟨j, hj, hb⟩)))
        have hR0 := Lib.hid (fun b (hb : ho = some b) => show ¬ RB b from fun hx => by have := (hRBn b hx).1; have := hG6.out.o.lt b hb; omega)
        have hRBn' := Lib.hid hRBn
        obtain ⟨rl, hrl⟩ : ∃ rl, rl = (sub k).length := ⟨_, rfl⟩
        rw [← hrl]
        have hrl' := Lib.hid hrl
        have hrl9 : rl ≤ 1000000000 := by rw [hrl]; exact hl'.out k
        clear hRB hRBn hR ho7 hrl
        go_wp2
        go_loopw [5, 9, 34] (fun u5 _ i wr => ∃ (r : Nat) (p : Option Addr) (cap : Nat) (ho : Option Nat) (V : List Value) (H : Nat → Option Nat), i = .int .i64 r ∧ r ≤ rl ∧ u5 = .slice p (outC ts a sub k ++ ((sub k).take r).map (a :: ·)).length cap ∧ Hid (GrpAt wr (q + 1) p cap ho V H (outC ts a sub k ++ ((sub k).take r).map (a :: ·))) ∧ Hid (∀ b, ho = some b → ¬ RB b) ∧ Hid (Only (fun b => q + 1 ≤ b ∧ ¬ RB b) w7 wr)) (fun _ _ i _ => rl - (intOf i).toNat)
        case atStart => exact ⟨0, p, cap, ho, V, H, rfl, Nat.zero_le _, by simp [hol'.out], Lib.hid (by simpa using hG7.out), hR0, Lib.hid (Only.refl _ _)⟩
        case round =>
          obtain ⟨r, p, cap, ho, V, H, rfl, hr, rfl, hG, hR0, hOr⟩ := hrel
          obtain ⟨ws, hws⟩ : ∃ ws : World, ws = wr := ⟨_, rfl⟩
          subst hws
          have hO7r := Lib.hid (hO7.out.trans hOr.out (fun _ _ h => h.1))
          have hsz : (outC ts a sub k ++ ((sub k).take r).map (a :: ·)).length ≤ 20000000000 := by
            have h1 := hbig.out k
            have h2 := hl'.out k
            rw [List.length_append, List.length_map, List.length_take]
            omega
          by_cases hrr : r < rl
          · have hrr' : (r : Int) < rl := by omega
            obtain ⟨M, hM⟩ : ∃ M, (sub k)[r]? = some M := ⟨_, List.getElem?_eq_getElem (by have := hrl'.out; omega)⟩
            have hM6 : M.length ≤ 1000000 := hll'.out k M (List.mem_of_getElem? hM)
            obtain ⟨A, cM, hV, hWM⟩ := (hRk.out ws hOr.out).row r M hM
            obtain ⟨go, goff, hA7, cg, cgl⟩ := cell_at (hRk.out ws hOr.out).o hV
            cases hA7
            have htk := Lib.hid (show outC ts a sub k ++ ((sub k).take (r + 1)).map (a :: ·) = (outC ts a sub k ++ ((sub k).take r).map (a :: ·)) ++ [a :: M] by rw [take_snoc hM, List.map_append, List.append_assoc]; rfl)
            obtain ⟨O, hOO⟩ : ∃ O, O = outC ts a sub k ++ ((sub k).take r).map (a :: ·) := ⟨_, rfl⟩
            rw [← hOO] at hG hsz htk ⊢
            obtain ⟨ml, hml⟩ : ∃ ml, ml = M.length := ⟨_, rfl⟩
            rw [← hml] at cg hM6
            have hml' := Lib.hid hml
            have hWs := Lib.hid (fun W (ho : Only (fun _ => False) ws W) (h0 : 0 < ml) => (hWM.kept ho (fun _ _ h => h)).src (by omega))
            clear hM hV hWM hOO hml
            go_wp2_with (at_builtin; first
              | (refine wpList_append_win rfl (.tmp 40) (.tmp 41) 24 rfl 3 (Value.int .i64 0) 1 8 Tryz.underlying24 info3 rfl (by decide) rfl (Win.of_row (L := [_]) (heap_new_at _ _ rfl) rfl (show 1 ≤ maxLen by decide)) A ml cM rfl (dat M) (by rw [dat_length, ← hml'.out, Nat.mul_one]) (hWs.out _ (by repeat (first | exact Only.refl _ _ | apply Only.alloc))) (dat_one M) (by unfold maxLen; omega) (by omega) ?_; intro v8 w8 h8 hW8 hO8 hh8; obtain ⟨p8, c8, rfl, _, _⟩ := hW8.out.form)
              | (refine wpList_append_win rfl (.tmp 38) (.tmp 43) 78 rfl 24 (Value.slice none 0 0) 1 24 Tryz.underlying78 info40 rfl (by decide) rfl (((hG.out.o.kept ((Only.refl (fun _ => False) _).alloc _) (fun _ _ h => h)).kept hO8.out (fun b hb e => by have := hG.out.o.lt b hb; cases e; omega)).kept ((Only.refl (fun _ => False) _).alloc _) (fun _ _ h => h)) _ 1 1 rfl [.slice p8 (1 + ml) c8] rfl (fun _ => ⟨_, rfl, row_one (heap_new_at _ _ (by simp))⟩) (by simp [Value.oneCell']) (by unfold maxLen; omega) (by omega) ?_; intro v9 w9 h9 hW9 hO9 hh9; obtain ⟨p9, c9, rfl, _, _⟩ := hW9.out.form))
            go_roundw
            case rel =>
              have hlen1 : (a :: M).length = 1 + ml := by rw [List.length_cons, hml'.out]; omega
              have hO2 : Only (fun _ => False) ws (w8.alloc (.cells #[.slice p8 (1 + ml) c8] 24)) := (((Only.refl (fun _ => False) ws).alloc (.cells #[.int .i64 (a : Int)] 3)).trans hO8.out (fun x hx e => by cases e; omega)).alloc _
              have hr : Win (w8.alloc (.cells #[.slice p8 (1 + ml) c8] 24)) 3 1 (.slice p8 (a :: M).length c8) h8 (a :: M).length (dat (a :: M)) := by
                rw [hlen1]
                exact hW8.out.kept ((Only.refl (fun _ => False) w8).alloc _) (fun _ _ h => h)
              have hnew : ∀ b, h8 = some b → ws.heap.size ≤ b := fun b hb => by
                rcases hh8.out with hh | ⟨g, hg, hge⟩
                · rw [hh] at hb; cases hb; exact Nat.le_refl _
                · rw [hg] at hb; cases hb; simp at hge; omega
              have hq1 : q + 1 ≤ ws.heap.size := by have := hO7r.out.size; have := hs3'.out; omega
              have hG9 := GrpAt.push (M := a :: M) (hn := h8) hG.out hq1 hO2 hr hnew hO9.out hh9.out (by rw [hlen1]; exact hW9.out)
              rw [← htk.out] at hG9
              refine ⟨r + 1, p9, c9, h9, _, _, by go_num, by omega, by rw [htk.out, List.length_append, List.length_singleton], Lib.hid hG9, Lib.hid (fun b hb hx => ?_), Lib.hid (hOr.out.trans ((hO2.mono (T := fun k => some k = ho) (fun _ _ h => h.elim)).trans hO9.out (fun k _ e => e)) (fun k _ e => ⟨hG.out.ofresh k e.symm, hR0.out k e.symm⟩))⟩
              rcases hh9.out with hh | ⟨g, hg, hge⟩
              · exact hR0.out b (hh ▸ hb) hx
              · rw [hg] at hb
                cases hb
                have h1 := (hRBn'.out _ hx).2
                have h2 := hOr.out.size
                have h3 := hO2.size
                omega
            case measure => simp [intOf]; omega
          · obtain rfl : r = rl := by omega
            have he : (sub k).take r = sub k := by rw [hrl'.out, List.take_length]
            rw [he] at hG ⊢
            go_wp2
            go_roundw
            case rel => exact ⟨k + 1, p, cap, ho, V, H, by go_num, by omega, by rw [hsu.out], by rw [hsu.out]; exact hG, hO7r⟩
            case measure => simp [intOf]; omega
      · have hlf : decide (u.th < tp) = false := decide_eq_false hlt
        rw [hlf] at hcan
        refine wp_region_wd (by kernel_rfl) (by kernel_rfl) ?_
        repeat (go_big_quiet_step (fail))
        refine wpQuiet_nil ?_
        rintro _ ⟨v, rfl⟩
        have hG6 := Lib.hid (hG5.out.new v.ok)
        have hO6 := Lib.hid (hO35.out.trans v.ok (fun _ _ h => h.elim))
        obtain ⟨w6, hw6⟩ : ∃ w6, w6 = v.W := ⟨_, rfl⟩
        rw [← hw6] at hG6 hO6 ⊢
        have hsu := Lib.hid (show outC ts a sub (k + 1) = outC ts a sub k by rw [outC_succ, if_neg (by rw [hcan]; simp)])
        clear hw6 p0 p1 p8 hex hcan
        go_wp2
        go_roundw
        case rel => exact ⟨k + 1, p, cap, ho, V, H, by go_num, by omega, by rw [hsu.out, ← hol'.out], by rw [hsu.out]; exact hG6, hO6⟩
        case measure => simp [intOf]; omega
    · obtain rfl : k = tn := by omega
      have hfin := Lib.hid (show Z (.returned (.slice p ol cap)) ws from by
        rw [hZ'.out, hlen.out, hol'.out]
        exact ⟨p, cap, ho, V, H, rfl, hG.out.base (by have := hq'.out; omega), (hb.out ws hOr.out).2.2⟩)
      go_wp2
      exact hfin.out
end Bch
end Go.Proofs.YtlbinlhaejhobaaGreatDoor
