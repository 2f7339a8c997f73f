/- ChainCan, walked. -/
import Derived.Test.YtcgnboplpibcgaaRsd
namespace Go.Proofs.Ytcgnboplpibcgaa
open Go Go.RowKit Go.Maps Go.Shelf
theorem u8_nat {z : Int} (h : (Lit.int .u8 z).wf = true) : ∃ b : Nat, z = b ∧ b ≤ 255 := by
  have h1 : IntKind.u8.min = 0 := by decide
  have h2 : IntKind.u8.max = 255 := by decide
  simp [Lit.wf] at h
  simp only [h1, h2] at h
  exact ⟨z.toNat, by omega, by omega⟩
/-- The cells of a boxed configuration, in each world that has grown out of one. -/
def CC (W : World) (q : Nat) (c : ConfV) : Prop :=
  W.cell? ⟨q, 0, none⟩ = some (.int .i64 c.s) ∧ W.cell? ⟨q, 1, none⟩ = some (.int .i64 c.wy) ∧ W.cell? ⟨q, 2, none⟩ = some (.int .i64 c.h) ∧ W.cell? ⟨q, 3, none⟩ = some (.int .i64 c.mi) ∧ W.cell? ⟨q, 4, none⟩ = some (.slice c.mb.A c.mb.n c.mb.cap) ∧ W.cell? ⟨q, 5, none⟩ = some (.int .i64 c.g) ∧
  W.cell? ⟨q, 6, none⟩ = some (.slice c.cn.A c.cn.n c.cn.cap) ∧ W.cell? ⟨q, 7, none⟩ = some (.slice c.ce.A c.ce.n c.ce.cap) ∧ W.cell? ⟨q, 8, none⟩ = some (.slice c.ta.A c.ta.n c.ta.cap) ∧ W.cell? ⟨q, 9, none⟩ = some (.slice c.li.A c.li.n c.li.cap) ∧ q < W.heap.size
theorem cc_of {W : World} {q : Nat} {c : ConfV} (h : W.heap[q]? = some (.cells c.cells.toArray 47 (0, 0))) : CC W q c :=
  ⟨row_cell h (i := 0) rfl, row_cell h (i := 1) rfl, row_cell h (i := 2) rfl, row_cell h (i := 3) rfl, row_cell h (i := 4) rfl, row_cell h (i := 5) rfl, row_cell h (i := 6) rfl, row_cell h (i := 7) rfl, row_cell h (i := 8) rfl, row_cell h (i := 9) rfl, row_lt h⟩
set_option maxRecDepth 100000 in
set_option maxHeartbeats 4000000 in
theorem chainCan_any {w : World} {c : ConfV} {ts : List TaskV} (hT : TasksAt w c.ta ts) (hn : c.ta.n ≤ 9223372036854775807) (hw : ∀ (k : Nat) t, ts[k]? = some t → (Lit.int .i64 t.th).wf = true) (a b : Int) {RA : Option Addr} {rn rc : Nat} {f : Nat → Int} (hR : IntRow .u8 w RA rn f) (hrn : rn ≤ 9223372036854775807) :
    Calls Try.prog 9 #[c.val, .int .i64 a, .int .i64 b, .slice RA rn rc] w (AnsB true w) := by
  obtain ⟨q, hq⟩ : ∃ q, q = w.heap.size := ⟨_, rfl⟩
  obtain ⟨W1, hW1⟩ : ∃ W1, W1 = w.alloc (.cells c.cells.toArray 47) := ⟨_, rfl⟩
  have hO1 : Only (fun _ => False) w W1 := by rw [hW1]; exact (Only.refl _ w).alloc _
  have b0 : W1.heap[q]? = some (.cells c.cells.toArray 47 (0, 0)) := by rw [hW1]; exact heap_new_at _ _ hq.symm
  have hb := Lib.hid (fun W (ho : Only (fun _ => False) W1 W) => show W.heap[q]? = some (.cells c.cells.toArray 47 (0, 0)) ∧ TasksAt W c.ta ts from ⟨ho.heap b0 (fun h => h), hT.new (hO1.trans' ho)⟩)
  have hlen := Lib.hid hT.len
  have hn' := Lib.hid hn
  have hT0 := Lib.hid hT
  have hw' := Lib.hid hw
  have hR' := Lib.hid hR
  obtain ⟨Z, hZ⟩ : ∃ Z, Z = AnsB true w := ⟨_, rfl⟩
  rw [← hZ]
  have hZ' := Lib.hid hZ
  have hq' := Lib.hid hq
  have hO1' := Lib.hid hO1
  unfold ConfV.cells at hW1
  have hW1' := Lib.hid hW1
  have hfin := Lib.hid (fun W (ho : Only (fun _ => False) W1 W) => show Z (.returned (.bool true)) W from by rw [hZ]; exact ⟨rfl, hO1.trans' ho⟩)
  clear hT hn hw hR hZ hq hO1 b0 hW1
  rw [show c.val = .agg #[.int .i64 c.s, .int .i64 c.wy, .int .i64 c.h, .int .i64 c.mi, .slice c.mb.A c.mb.n c.mb.cap, .int .i64 c.g, .slice c.cn.A c.cn.n c.cn.cap, .slice c.ce.A c.ce.n c.ce.cap, .slice c.ta.A c.ta.n c.ta.cap, .slice c.li.A c.li.n c.li.cap] from rfl]
  obtain ⟨cv, hcv⟩ : ∃ cv, cv = c.val := ⟨_, rfl⟩
  have cfew := Lib.hid (fun W (ho : Only (fun _ => False) W1 W) => show Calls Try.prog 25 #[cv] W (GrowB (fewB c ts) W) from by rw [hcv]; exact few_any (hb.out W ho).2 hn'.out)
  have cright := Lib.hid (fun W (ho : Only (fun _ => False) W1 W) => show Calls Try.prog 18 #[cv] W (GrowB (rightB ts) W) from by rw [hcv]; exact right_any (hb.out W ho).2 hn'.out)
  have cbound := Lib.hid (fun W (ho : Only (fun _ => False) W1 W) => show Calls Try.prog 20 #[cv] W (GrowI (bndZ ts) W) from by rw [hcv]; exact bound_any (hb.out W ho).2 hn'.out)
  have ccan := Lib.hid (fun W (ho : Only (fun _ => False) W1 W) => show Calls Try.prog 24 #[cv, .int .i64 a, .int .i64 b] W (GrowB (canZ ts a b) W) from by rw [hcv]; exact can_any (hb.out W ho).2 hn'.out a b)
  unfold ConfV.val at hcv
  subst hcv
  obtain ⟨FB, hFB⟩ : ∃ FB, FB = fewB c ts := ⟨_, rfl⟩
  rw [← hFB] at cfew
  obtain ⟨RB, hRB⟩ : ∃ RB, RB = rightB ts := ⟨_, rfl⟩
  rw [← hRB] at cright
  obtain ⟨BZ, hBZ⟩ : ∃ BZ, BZ = bndZ ts := ⟨_, rfl⟩
  rw [← hBZ] at cbound
  have hBZ' := Lib.hid hBZ
  clear hBZ
  have hlow := Lib.hid (fun (j : Nat) (u : TaskV) (hj : ts[j]? = some u) => show -9223372036854775808 ≤ u.th from by
    have := hw'.out j u hj
    simp [Lit.wf] at this
    have e1 : IntKind.i64.min = -9223372036854775808 := by decide
    omega)
  have hfl := Lib.hid (show (flat ts).length = c.ta.n * 7 by rw [flat_len, hlen.out])
  have hsrc := Lib.hid (fun W (ho : Only (fun _ => False) W1 W) (h0 : 0 < c.ta.n) => flat_src (hb.out W ho).2 h0)
  go_enter Try.func9, Try.ntmps9
  go_wp2_with fail
  rw [← hW1'.out]
  rw [← hq'.out]
  refine (fixed26_any W1).mono ?_
  rintro e w2 ⟨rfl, ho⟩
  have hO2 := Lib.hid ho
  clear ho
  obtain ⟨d0, d1, d2, d3, d4, d5, d6, d7, d8, d9, dl⟩ := cc_of (hb.out w2 hO2.out).1
  go_wp2_with fail
  refine (cfew.out w2 hO2.out).mono ?_
  rintro e w3 ⟨rfl, ho⟩
  have hO3 := Lib.hid (hO2.out.trans' ho)
  clear ho d0 d1 d2 d3 d4 d5 d6 d7 d8 d9 dl
  cases FB
  · clear hFB hRB
    go_wp2
    exact hfin.out w3 hO3.out
  have h20 : c.ta.n ≤ 20 := by
    unfold fewB at hFB
    have := (Bool.and_eq_true_iff.1 hFB.symm).2
    exact (of_decide_eq_true this).2.2.2.1
  clear hFB
  obtain ⟨d0, d1, d2, d3, d4, d5, d6, d7, d8, d9, dl⟩ := cc_of (hb.out w3 hO3.out).1
  have p0 := wd_cell d0
  have p1 := wd_cell d1
  have p2 := wd_cell d2
  have p3 := wd_cell d3
  have p4 := wd_cell d4
  have p5 := wd_cell d5
  have p6 := wd_cell d6
  have p7 := wd_cell d7
  have p8 := wd_cell d8
  have p9 := wd_cell d9
  have hex := wd_ex w3
  obtain ⟨V, hV⟩ : ∃ V, V = canZ ts a b := ⟨_, rfl⟩
  rw [← hV] at ccan
  have cc3 := Lib.hid (fun v : Wd w3 => Calls.wd (x := v) (ccan.out v.W (hO3.out.trans' v.ok)))
  by_cases hin : (0 ≤ a ∧ a < c.ta.n) ∧ (0 ≤ b ∧ b < c.ta.n)
  · obtain ⟨⟨ha0, ha1⟩, hb0, hb1⟩ := hin
    obtain ⟨i, rfl, hi⟩ : ∃ i : Nat, a = i ∧ i < c.ta.n := ⟨a.toNat, by omega, by omega⟩
    obtain ⟨k, rfl, hk⟩ : ∃ k : Nat, b = k ∧ k < c.ta.n := ⟨b.toNat, by omega, by omega⟩
    obtain ⟨t, ht⟩ : ∃ t, ts[i]? = some t := ⟨_, List.getElem?_eq_getElem (by have := hlen.out; omega)⟩
    obtain ⟨u, hu⟩ : ∃ u, ts[k]? = some u := ⟨_, List.getElem?_eq_getElem (by have := hlen.out; omega)⟩
    have hVd : V = decide (u.th < t.p) := by rw [hV, canZ_in (by have := hlen.out; omega) (by have := hlen.out; omega), canB, thr_at hu, prio_at ht]
    obtain ⟨tb, toff, hA, htl, hC⟩ := (hb.out w3 hO3.out).2.at_ i t ht
    obtain ⟨tb', toff', hA', htl', hD⟩ := (hb.out w3 hO3.out).2.at_ k u hu
    rw [hA] at hA'
    cases hA'
    have r0 := wd_cell hC.c0
    have r1 := wd_cell hD.c1
    have cc4 := cc3.out
    simp only [hA] at cc4 p8
    replace cc3 := Lib.hid cc4
    clear cc4 hC hD ht hu hV hA htl'
    have hc : (V = true ∧ decide (u.th < t.p) = true) ∨ (V = false ∧ decide (u.th < t.p) = false) := by
      cases hh : decide (u.th < t.p)
      · exact .inr ⟨hVd.trans hh, rfl⟩
      · exact .inl ⟨hVd.trans hh, rfl⟩
    clear hVd
    rcases hc with ⟨rfl, hdt⟩ | ⟨rfl, hdt⟩
    all_goals
      go_wp2_with fail
      refine wp_region_wd (by kernel_rfl) (by kernel_rfl) ?_
      repeat (go_big_quiet_step (first | (go_at_call 24; with_reducible exact cc3.out _)))
      refine wpQuiet_nil ?_
      rintro _ ⟨v, rfl⟩
      have hO5 := Lib.hid (hO3.out.trans' v.ok)
      obtain ⟨w5, hw5⟩ : ∃ w5, w5 = v.W := ⟨_, rfl⟩
      rw [← hw5] at hO5 ⊢
      clear hw5 r0 r1 hdt p0 p1 p2 p3 p4 p5 p6 p7 p8 p9 hex d0 d1 d2 d3 d4 d5 d6 d7 d8 d9 dl cc3
      obtain ⟨d0, d1, d2, d3, d4, d5, d6, d7, d8, d9, dl⟩ := cc_of (hb.out w5 hO5.out).1
      go_wp2_with fail
      refine (cright.out w5 hO5.out).mono ?_
      rintro e w6 ⟨rfl, ho⟩
      have hO6 := Lib.hid (hO5.out.trans' ho)
      clear ho d0 d1 d2 d3 d4 d5 d6 d7 d8 d9 dl
      cases RB
      · clear hRB
        go_wp2
        exact hfin.out w6 hO6.out
      have hn12 : c.ta.n ≤ 12 := by have := (right_facts hRB.symm).1; have := hlen.out; omega
      have hRB' := Lib.hid hRB.symm
      clear hRB h20
      obtain ⟨d0, d1, d2, d3, d4, d5, d6, d7, d8, d9, dl⟩ := cc_of (hb.out w6 hO6.out).1
      go_wp2_with fail
      refine (cbound.out w6 hO6.out).mono ?_
      rintro e w7 ⟨rfl, ho⟩
      have hO7 := Lib.hid (hO6.out.trans' ho)
      clear ho d0 d1 d2 d3 d4 d5 d6 d7 d8 d9 dl
      obtain ⟨d0, d1, d2, d3, d4, d5, d6, d7, d8, d9, dl⟩ := cc_of (hb.out w7 hO7.out).1
      go_wp2_with (at_builtin; (refine wpList_append_win rfl _ _ 45 rfl 57 _ 7 72 Try.underlying45 info57 rfl (by decide) rfl (Win.empty _ 57 7 _) c.ta.A c.ta.n c.ta.cap rfl (flat ts) hfl.out (hsrc.out _ (by repeat (first | exact hO7.out | apply Only.alloc))) (flat_one ts) (by unfold maxLen; omega) (by omega) ?_; intro v8 w8 h8 hW8 hO8 hh8; obtain ⟨p8, c8, rfl, _, _⟩ := hW8.out.form; have hd8 := (ord_only hO8.out).heap (k := w7.heap.size) (o := .cells c.cells.toArray 47 (0, 0)) (by first | exact heap_new_at _ _ rfl | exact heap_kept_alloc (heap_new_at _ _ rfl) _) (fun h => h); have q8 := row_cell hd8 (i := 8) rfl; have qf := row_free hd8 8; have ql := row_lt hd8; have hd9 := Lib.hid (row_set hd8 8 (.slice p8 c.ta.n c8)); have hW8' := Lib.hid (show Win w8 57 7 (.slice p8 c.ta.n c8) h8 c.ta.n (flat ts) by simpa using hW8.out); have hO8' := Lib.hid (show Only (fun _ => False) W1 w8 from Only.trans' (by repeat (first | exact hO7.out | apply Only.alloc)) (ord_only hO8.out)); have hf8 := Lib.hid (show ∀ k, h8 = some k → w7.heap.size < k from fun k hk => hh8.out.elim (fun hh => by rw [hh] at hk; cases hk) (fun ⟨g, hg, hge⟩ => by rw [hg] at hk; cases hk; simp at hge; omega)); clear hd8 hW8 hO8 hh8))
      obtain ⟨w9, hw9⟩ : ∃ w9, w9 = w8.setCell ⟨w7.heap.size, 8, none⟩ (.slice p8 c.ta.n c8) := ⟨_, rfl⟩
      rw [← hw9]
      obtain ⟨qd, hqd⟩ : ∃ qd, qd = w7.heap.size := ⟨_, rfl⟩
      rw [← hqd] at hd9 hf8 hw9 ⊢
      have hs9 := Lib.hid (show Only (fun k => k = qd) w8 w9 from by rw [hw9]; exact (Only.refl (fun k => k = qd) w8).setCell (p := ⟨qd, 8, none⟩) (fun _ => rfl) _)
      rw [← hw9] at hd9
      have hqd7 : W1.heap.size ≤ qd := by rw [hqd]; exact hO7.out.size
      have hW9 := Lib.hid (hW8'.out.kept hs9.out (fun k hk e => by have := hf8.out k hk; omega))
      have hO9 := Lib.hid (show Only (fun k => w.heap.size ≤ k) w w9 from ((hO1'.out.trans' hO8'.out).mono (fun _ _ h => h.elim)).trans hs9.out (fun k hk e => by have := hO1'.out.size; omega))
      have hqw := Lib.hid (show w.heap.size ≤ qd by have := hO1'.out.size; omega)
      clear q8 qf ql hw9 hqd hqd7 hs9 hW8' d0 d1 d2 d3 d4 d5 d6 d7 d8 d9 dl
      go_loopw [12, 13, 73] (fun _ _ i wr => ∃ (k : Nat) (us : List TaskV), i = .int .i64 k ∧ k ≤ rn ∧ Hid (Rais ts us) ∧ Hid (∀ (j : Nat) u, us[j]? = some u → -9223372036854775808 ≤ u.th) ∧ Hid (Win wr 57 7 (.slice p8 c.ta.n c8) h8 c.ta.n (flat us)) ∧ Hid (wr.heap[qd]? = some (.cells (c.cells.set 8 (.slice p8 c.ta.n c8)).toArray 47 (0, 0))) ∧ Hid (Only (fun k => w.heap.size ≤ k) w wr)) (fun _ _ i _ => rn - (intOf i).toNat)
      case atStart => exact ⟨0, ts, rfl, Nat.zero_le _, Lib.hid (Rais.refl ts), hlow, hW9, hd9, hO9⟩
      case round =>
        obtain ⟨k, us, rfl, hk, hRs, hLo, hWr, hdr, hOr⟩ := hrel
        obtain ⟨ws, hws⟩ : ∃ ws : World, ws = wr := ⟨_, rfl⟩
        subst hws
        have hul := Lib.hid (show us.length = c.ta.n by rw [hRs.out.len, hlen.out])
        by_cases hkn : k < rn
        · have hkn' : (k : Int) < rn := by omega
          have g8 := row_cell hdr.out (i := 8) rfl
          have gl := row_lt hdr.out
          obtain ⟨⟨rb, ro, rfl, hcr, hrl⟩, hwf⟩ := hR'.out k hkn
          have cr := hOr.out.cell hcr (by show ¬ w.heap.size ≤ rb; omega)
          have rl2 : rb < ws.heap.size := Nat.lt_of_lt_of_le hrl hOr.out.size
          obtain ⟨z, hz, hz255⟩ := u8_nat hwf
          rw [hz] at cr
          clear hcr hwf hrl hz
          by_cases hkt : k < c.ta.n
          · have hkt' : (k : Int) < c.ta.n := by omega
            obtain ⟨u, hu⟩ : ∃ u, us[k]? = some u := ⟨_, List.getElem?_eq_getElem (by rw [hul.out]; exact hkt)⟩
            obtain ⟨g, off, cc, hg8, hv, _, _, hgl, hcell, hfz⟩ := hWr.out.at_ (by omega)
            simp only [Value.slice.injEq, true_and] at hv
            obtain ⟨rfl, rfl⟩ := hv
            have c1 := hcell (k * 7 + 1) _ (flat_get hu (i := 1) rfl)
            have f1 := hfz (off + (k * 7 + 1))
            rw [← Nat.add_assoc] at c1 f1
            have hlo := hLo.out k u hu
            have hu' := Lib.hid hu
            have hg8' := Lib.hid hg8
            clear hcell hfz hu hg8
            by_cases hth : u.th < 1099511627776
            · have hwr : IntKind.i64.wrap (u.th + z) = u.th + z := IntWalk.i64_in _ (by omega)
              have hwc : IntKind.i64.wrap z = z := IntWalk.i64_in _ (by omega)
              go_wp2_with fail
              go_roundw
              case rel =>
                have hsw := hWr.out.setCell7 (by omega) (k * 7 + 1) (.int .i64 (u.th + z))
                rw [flat_set hu'.out, ← Nat.add_assoc] at hsw
                have hso : Only (fun k => k = g) ws (ws.setCell ⟨g, off + k * 7 + 1, none⟩ (.int .i64 (u.th + z))) := (Only.refl (fun k => k = g) ws).setCell (p := ⟨g, off + k * 7 + 1, none⟩) (fun _ => rfl) _
                have hgq := hf8.out g hg8'.out
                refine ⟨k + 1, us.set k (raise u (u.th + z)), by go_num, by omega, Lib.hid (hRs.out.set hu'.out (by omega)), Lib.hid (fun j v hj => ?_), Lib.hid hsw.2, Lib.hid (hso.heap hdr.out (by omega)), Lib.hid (hOr.out.trans hso (fun x hx e => by have := hqw.out; omega))⟩
                by_cases hjk : j = k
                · subst hjk
                  rw [List.getElem?_set_self (by rw [hul.out]; exact hkt)] at hj
                  cases hj
                  show -9223372036854775808 ≤ u.th + z
                  omega
                · rw [List.getElem?_set_ne (Ne.symm hjk)] at hj
                  exact hLo.out j v hj
              case measure => simp [intOf]; omega
            · go_wp2_with fail
              go_roundw
              case rel => exact ⟨k + 1, us, by go_num, by omega, hRs, hLo, hWr, hdr, hOr⟩
              case measure => simp [intOf]; omega
          · have hkt' : ¬ (k : Int) < c.ta.n := by omega
            go_wp2_with fail
            go_roundw
            case rel => exact ⟨k + 1, us, by go_num, by omega, hRs, hLo, hWr, hdr, hOr⟩
            case measure => simp [intOf]; omega
        · obtain rfl : k = rn := by omega
          have hbd := bound_any (w := ws) (c := { c with ta := ⟨p8, c.ta.n, c8⟩ }) (ts := us) (flat_tasks hWr.out hul.out) hn'.out
          have hle : bndZ us ≤ BZ := by rw [hBZ'.out]; exact bnd_mono hRB'.out hRs.out
          obtain ⟨BU, hBU⟩ : ∃ BU, BU = bndZ us := ⟨_, rfl⟩
          rw [← hBU] at hbd hle
          unfold ConfV.val at hbd
          dsimp only at hbd
          have hbd' := Lib.hid hbd
          obtain ⟨d0, d1, d2, d3, d4, d5, d6, d7, d8, d9, dl⟩ := cc_of (c := { c with ta := ⟨p8, c.ta.n, c8⟩ }) hdr.out
          dsimp only at d0 d1 d2 d3 d4 d5 d6 d7 d8 d9
          clear hbd hBU
          go_wp2_with fail
          refine hbd'.out.mono ?_
          rintro e w12 ⟨rfl, ho⟩
          have hO12 := Lib.hid (hOr.out.trans ho (fun _ _ h => h.elim))
          clear ho hbd' d0 d1 d2 d3 d4 d5 d6 d7 d8 d9 dl
          go_wp2
          rw [hZ'.out]
          exact ⟨by first | rfl | simp [hle], hO12.out.mono (fun x hx h => by omega)⟩
  · have hVf : V = false := by
      rw [hV]
      unfold canZ inZ
      rw [hlen.out]
      by_cases h1 : 0 ≤ a ∧ a < c.ta.n
      · have h2 : ¬ (0 ≤ b ∧ b < c.ta.n) := fun h2 => hin ⟨h1, h2⟩
        rw [decide_eq_false h2]
        simp
      · rw [decide_eq_false h1]
        simp
    subst hVf
    have hc : ¬ 0 ≤ a ∨ (0 ≤ a ∧ ¬ a < c.ta.n) ∨ ((0 ≤ a ∧ a < c.ta.n) ∧ ¬ 0 ≤ b) ∨ ((0 ≤ a ∧ a < c.ta.n) ∧ (0 ≤ b ∧ ¬ b < c.ta.n)) := by omega
    clear hin hV
    rcases hc with h1 | ⟨h1, h2⟩ | ⟨⟨h1, h2⟩, h3⟩ | ⟨⟨h1, h2⟩, h3, h4⟩
    all_goals
      try have hdb := decide_eq_false h4
      try have hda := decide_eq_false h2
      go_wp2_with fail
      refine wp_region_wd (by kernel_rfl) (by kernel_rfl) ?_
      repeat (go_big_quiet_step (first | (go_at_call 24; with_reducible exact cc3.out _)))
      refine wpQuiet_nil ?_
      rintro _ ⟨v, rfl⟩
      have hO5 := Lib.hid (hO3.out.trans' v.ok)
      obtain ⟨w5, hw5⟩ : ∃ w5, w5 = v.W := ⟨_, rfl⟩
      rw [← hw5] at hO5 ⊢
      clear hw5 p0 p1 p2 p3 p4 p5 p6 p7 p8 p9 hex d0 d1 d2 d3 d4 d5 d6 d7 d8 d9 dl cc3
      obtain ⟨d0, d1, d2, d3, d4, d5, d6, d7, d8, d9, dl⟩ := cc_of (hb.out w5 hO5.out).1
      go_wp2_with fail
      refine (cright.out w5 hO5.out).mono ?_
      rintro e w6 ⟨rfl, ho⟩
      have hO6 := Lib.hid (hO5.out.trans' ho)
      clear ho d0 d1 d2 d3 d4 d5 d6 d7 d8 d9 dl
      cases RB
      · clear hRB
        go_wp2
        exact hfin.out w6 hO6.out
      have hn12 : c.ta.n ≤ 12 := by have := (right_facts hRB.symm).1; have := hlen.out; omega
      have hRB' := Lib.hid hRB.symm
      clear hRB h20
      obtain ⟨d0, d1, d2, d3, d4, d5, d6, d7, d8, d9, dl⟩ := cc_of (hb.out w6 hO6.out).1
      go_wp2_with fail
      refine (cbound.out w6 hO6.out).mono ?_
      rintro e w7 ⟨rfl, ho⟩
      have hO7 := Lib.hid (hO6.out.trans' ho)
      clear ho d0 d1 d2 d3 d4 d5 d6 d7 d8 d9 dl
      obtain ⟨d0, d1, d2, d3, d4, d5, d6, d7, d8, d9, dl⟩ := cc_of (hb.out w7 hO7.out).1
      go_wp2_with (at_builtin; (refine wpList_append_win rfl _ _ 45 rfl 57 _ 7 72 Try.underlying45 info57 rfl (by decide) rfl (Win.empty _ 57 7 _) c.ta.A c.ta.n c.ta.cap rfl (flat ts) hfl.out (hsrc.out _ (by repeat (first | exact hO7.out | apply Only.alloc))) (flat_one ts) (by unfold maxLen; omega) (by omega) ?_; intro v8 w8 h8 hW8 hO8 hh8; obtain ⟨p8, c8, rfl, _, _⟩ := hW8.out.form; have hd8 := (ord_only hO8.out).heap (k := w7.heap.size) (o := .cells c.cells.toArray 47 (0, 0)) (by first | exact heap_new_at _ _ rfl | exact heap_kept_alloc (heap_new_at _ _ rfl) _) (fun h => h); have q8 := row_cell hd8 (i := 8) rfl; have qf := row_free hd8 8; have ql := row_lt hd8; have hd9 := Lib.hid (row_set hd8 8 (.slice p8 c.ta.n c8)); have hW8' := Lib.hid (show Win w8 57 7 (.slice p8 c.ta.n c8) h8 c.ta.n (flat ts) by simpa using hW8.out); have hO8' := Lib.hid (show Only (fun _ => False) W1 w8 from Only.trans' (by repeat (first | exact hO7.out | apply Only.alloc)) (ord_only hO8.out)); have hf8 := Lib.hid (show ∀ k, h8 = some k → w7.heap.size < k from fun k hk => hh8.out.elim (fun hh => by rw [hh] at hk; cases hk) (fun ⟨g, hg, hge⟩ => by rw [hg] at hk; cases hk; simp at hge; omega)); clear hd8 hW8 hO8 hh8))
      obtain ⟨w9, hw9⟩ : ∃ w9, w9 = w8.setCell ⟨w7.heap.size, 8, none⟩ (.slice p8 c.ta.n c8) := ⟨_, rfl⟩
      rw [← hw9]
      obtain ⟨qd, hqd⟩ : ∃ qd, qd = w7.heap.size := ⟨_, rfl⟩
      rw [← hqd] at hd9 hf8 hw9 ⊢
      have hs9 := Lib.hid (show Only (fun k => k = qd) w8 w9 from by rw [hw9]; exact (Only.refl (fun k => k = qd) w8).setCell (p := ⟨qd, 8, none⟩) (fun _ => rfl) _)
      rw [← hw9] at hd9
      have hqd7 : W1.heap.size ≤ qd := by rw [hqd]; exact hO7.out.size
      have hW9 := Lib.hid (hW8'.out.kept hs9.out (fun k hk e => by have := hf8.out k hk; omega))
      have hO9 := Lib.hid (show Only (fun k => w.heap.size ≤ k) w w9 from ((hO1'.out.trans' hO8'.out).mono (fun _ _ h => h.elim)).trans hs9.out (fun k hk e => by have := hO1'.out.size; omega))
      have hqw := Lib.hid (show w.heap.size ≤ qd by have := hO1'.out.size; omega)
      clear q8 qf ql hw9 hqd hqd7 hs9 hW8' d0 d1 d2 d3 d4 d5 d6 d7 d8 d9 dl
      go_loopw [12, 13, 73] (fun _ _ i wr => ∃ (k : Nat) (us : List TaskV), i = .int .i64 k ∧ k ≤ rn ∧ Hid (Rais ts us) ∧ Hid (∀ (j : Nat) u, us[j]? = some u → -9223372036854775808 ≤ u.th) ∧ Hid (Win wr 57 7 (.slice p8 c.ta.n c8) h8 c.ta.n (flat us)) ∧ Hid (wr.heap[qd]? = some (.cells (c.cells.set 8 (.slice p8 c.ta.n c8)).toArray 47 (0, 0))) ∧ Hid (Only (fun k => w.heap.size ≤ k) w wr)) (fun _ _ i _ => rn - (intOf i).toNat)
      case atStart => exact ⟨0, ts, rfl, Nat.zero_le _, Lib.hid (Rais.refl ts), hlow, hW9, hd9, hO9⟩
      case round =>
        obtain ⟨k, us, rfl, hk, hRs, hLo, hWr, hdr, hOr⟩ := hrel
        obtain ⟨ws, hws⟩ : ∃ ws : World, ws = wr := ⟨_, rfl⟩
        subst hws
        have hul := Lib.hid (show us.length = c.ta.n by rw [hRs.out.len, hlen.out])
        by_cases hkn : k < rn
        · have hkn' : (k : Int) < rn := by omega
          have g8 := row_cell hdr.out (i := 8) rfl
          have gl := row_lt hdr.out
          obtain ⟨⟨rb, ro, rfl, hcr, hrl⟩, hwf⟩ := hR'.out k hkn
          have cr := hOr.out.cell hcr (by show ¬ w.heap.size ≤ rb; omega)
          have rl2 : rb < ws.heap.size := Nat.lt_of_lt_of_le hrl hOr.out.size
          obtain ⟨z, hz, hz255⟩ := u8_nat hwf
          rw [hz] at cr
          clear hcr hwf hrl hz
          by_cases hkt : k < c.ta.n
          · have hkt' : (k : Int) < c.ta.n := by omega
            obtain ⟨u, hu⟩ : ∃ u, us[k]? = some u := ⟨_, List.getElem?_eq_getElem (by rw [hul.out]; exact hkt)⟩
            obtain ⟨g, off, cc, hg8, hv, _, _, hgl, hcell, hfz⟩ := hWr.out.at_ (by omega)
            simp only [Value.slice.injEq, true_and] at hv
            obtain ⟨rfl, rfl⟩ := hv
            have c1 := hcell (k * 7 + 1) _ (flat_get hu (i := 1) rfl)
            have f1 := hfz (off + (k * 7 + 1))
            rw [← Nat.add_assoc] at c1 f1
            have hlo := hLo.out k u hu
            have hu' := Lib.hid hu
            have hg8' := Lib.hid hg8
            clear hcell hfz hu hg8
            by_cases hth : u.th < 1099511627776
            · have hwr : IntKind.i64.wrap (u.th + z) = u.th + z := IntWalk.i64_in _ (by omega)
              have hwc : IntKind.i64.wrap z = z := IntWalk.i64_in _ (by omega)
              go_wp2_with fail
              go_roundw
              case rel =>
                have hsw := hWr.out.setCell7 (by omega) (k * 7 + 1) (.int .i64 (u.th + z))
                rw [flat_set hu'.out, ← Nat.add_assoc] at hsw
                have hso : Only (fun k => k = g) ws (ws.setCell ⟨g, off + k * 7 + 1, none⟩ (.int .i64 (u.th + z))) := (Only.refl (fun k => k = g) ws).setCell (p := ⟨g, off + k * 7 + 1, none⟩) (fun _ => rfl) _
                have hgq := hf8.out g hg8'.out
                refine ⟨k + 1, us.set k (raise u (u.th + z)), by go_num, by omega, Lib.hid (hRs.out.set hu'.out (by omega)), Lib.hid (fun j v hj => ?_), Lib.hid hsw.2, Lib.hid (hso.heap hdr.out (by omega)), Lib.hid (hOr.out.trans hso (fun x hx e => by have := hqw.out; omega))⟩
                by_cases hjk : j = k
                · subst hjk
                  rw [List.getElem?_set_self (by rw [hul.out]; exact hkt)] at hj
                  cases hj
                  show -9223372036854775808 ≤ u.th + z
                  omega
                · rw [List.getElem?_set_ne (Ne.symm hjk)] at hj
                  exact hLo.out j v hj
              case measure => simp [intOf]; omega
            · go_wp2_with fail
              go_roundw
              case rel => exact ⟨k + 1, us, by go_num, by omega, hRs, hLo, hWr, hdr, hOr⟩
              case measure => simp [intOf]; omega
          · have hkt' : ¬ (k : Int) < c.ta.n := by omega
            go_wp2_with fail
            go_roundw
            case rel => exact ⟨k + 1, us, by go_num, by omega, hRs, hLo, hWr, hdr, hOr⟩
            case measure => simp [intOf]; omega
        · obtain rfl : k = rn := by omega
          have hbd := bound_any (w := ws) (c := { c with ta := ⟨p8, c.ta.n, c8⟩ }) (ts := us) (flat_tasks hWr.out hul.out) hn'.out
          have hle : bndZ us ≤ BZ := by rw [hBZ'.out]; exact bnd_mono hRB'.out hRs.out
          obtain ⟨BU, hBU⟩ : ∃ BU, BU = bndZ us := ⟨_, rfl⟩
          rw [← hBU] at hbd hle
          unfold ConfV.val at hbd
          dsimp only at hbd
          have hbd' := Lib.hid hbd
          obtain ⟨d0, d1, d2, d3, d4, d5, d6, d7, d8, d9, dl⟩ := cc_of (c := { c with ta := ⟨p8, c.ta.n, c8⟩ }) hdr.out
          dsimp only at d0 d1 d2 d3 d4 d5 d6 d7 d8 d9
          clear hbd hBU
          go_wp2_with fail
          refine hbd'.out.mono ?_
          rintro e w12 ⟨rfl, ho⟩
          have hO12 := Lib.hid (hOr.out.trans ho (fun _ _ h => h.elim))
          clear ho hbd' d0 d1 d2 d3 d4 d5 d6 d7 d8 d9 dl
          go_wp2
          rw [hZ'.out]
          exact ⟨by first | rfl | simp [hle], hO12.out.mono (fun x hx h => by omega)⟩
end Go.Proofs.Ytcgnboplpibcgaa
