/- The document's layer 28: Response. -/
import Derived.Test.YtlbinlhaejhobaaGreatDoorRef1
import Derived.Test.YtlbinlhaejhobaaGreatDoorPI
namespace Go.Proofs.YtlbinlhaejhobaaGreatDoor
namespace Adm
open Go Go.RowKit Rca Sct Lin Lck Cst Rld Pre
open Bch (info22 U uU sA sC sM sA_le sC_le sM_le GrowU Ld LRow LB orU)
theorem _root_.Go.Proofs.YtlbinlhaejhobaaGreatDoor.Pair.kept {et : TypeId} {w0 w w' : World} {vk vg : Value} {hk hg : Option Nat} {nk ng : Nat} {ks gs : List Value} (h : Pair et w0 w vk hk nk ks vg hg ng gs) (ho : Only (fun _ => False) w w') : Pair et w0 w' vk hk nk ks vg hg ng gs :=
  ⟨h.k.kept ho (fun _ _ h => h), h.g.kept ho (fun _ _ h => h), h.ne, h.fk, h.fg, h.only.trans' ho⟩
theorem _root_.Go.Proofs.YtlbinlhaejhobaaGreatDoor.Loc.kept {w w' : World} {X : Nat} {o : Obj} {hk hg : Option Nat} (h : Loc w X o hk hg) (ho : Only (fun _ => False) w w') : Loc w' X o hk hg := ⟨ho.heap h.at_ (fun h => h), h.k, h.g⟩
theorem _root_.Go.Proofs.YtlbinlhaejhobaaGreatDoor.Pair.fresh {et : TypeId} {w0 w : World} {vk vg : Value} {hk hg : Option Nat} {nk ng : Nat} {ks gs : List Value} (h : Pair et w0 w vk hk nk ks vg hg ng gs) (o : Obj) : Loc (w.alloc o) w.heap.size o hk hg :=
  ⟨heap_new_at w o rfl, fun e => by have := h.k.lt _ e; omega, fun e => by have := h.g.lt _ e; omega⟩
def cosL (c : ConfV) (pl : Tks) (own : Int) (k : Nat) : List Value := ((thoseU highB pl.ts own k).map (cosI c pl)).map uU
def perL (pl : Tks) (own : Int) (k : Nat) : List Value := ((thoseU highB pl.ts own k).map (perI pl)).map uU
theorem cosL_succ (c : ConfV) (pl : Tks) (own : Int) (k : Nat) : cosL c pl own (k + 1) = cosL c pl own k ++ (if highB (prio pl.ts k) own = true then [uU (cosI c pl k)] else []) := by
  unfold cosL
  rw [thoseU_succ]
  split <;> simp
theorem perL_succ (pl : Tks) (own : Int) (k : Nat) : perL pl own (k + 1) = perL pl own k ++ (if highB (prio pl.ts k) own = true then [uU (perI pl k)] else []) := by
  unfold perL
  rw [thoseU_succ]
  split <;> simp
set_option maxRecDepth 100000 in
set_option maxHeartbeats 8000000 in
theorem rresp_any {w : World} {c : ConfV} {d : ConfL} {pl : Tks} (hC : ConfIn w c d pl) (hF : Fin0.Fine c d pl) {i : Nat} (hi : i < c.ta.n) {dl most : Nat} (hd : dl ≤ 18446744073709551615) (hmost : most ≤ 100000) :
    Calls Tryz.prog 52 #[c.val, .int .i64 (i : Int), U dl, U most] w (GrowU (Bch.win (Bch.dem dl (ldL c pl (prio pl.ts i))) most) w) := by
  obtain ⟨q, hq⟩ : ∃ q, q = w.heap.size := ⟨_, rfl⟩
  obtain ⟨W2, hW2⟩ : ∃ W2, W2 = w.alloc (.cells c.cells.toArray 27) := ⟨_, rfl⟩
  have hO2 : Only (fun _ => False) w W2 := by rw [hW2]; exact (Only.refl _ w).alloc _
  have b0 : W2.heap[q]? = some (.cells c.cells.toArray 27 (0, 0)) := by rw [hW2]; exact heap_new_at _ _ hq.symm
  have hq' := Lib.hid hq
  have hcy := Lib.hid (fun W (ho : Only (fun _ => False) W2 W) => cyv_of (ho.heap b0 (fun h => h)))
  obtain ⟨cv, hcv⟩ : ∃ cv, cv = c.val := ⟨_, rfl⟩
  have ccos := Lib.hid (fun W (ho : Only (fun _ => False) W2 W) (x : Nat) (hx : x < c.ta.n) => show Calls Tryz.prog 23 #[cv, .int .i64 (x : Int)] W (GrowU (cosI c pl x) W) from by rw [hcv]; exact rcost_any (hC.new (hO2.trans' ho)) hF hx)
  obtain ⟨own, hown⟩ : ∃ own, own = prio pl.ts i := ⟨_, rfl⟩
  obtain ⟨R, hR⟩ : ∃ R, R = Bch.win (Bch.dem dl (ldL c pl own)) most := ⟨_, rfl⟩
  rw [← hown, ← hR]
  have cwin := Lib.hid (fun W va ha vb hb n (hP : Pair 36 W2 W va ha n (cosL c pl own c.ta.n) vb hb n (perL pl own c.ta.n)) => show Calls Tryz.prog 83 #[U dl, va, vb, U most] W (GrowU R W) from by
    have hl := hP.k.1
    have e1 : (ldL c pl own).map (·.1) = (thoseU highB pl.ts own c.ta.n).map (cosI c pl) := by unfold ldL; rw [List.map_map]; rfl
    have e2 : (ldL c pl own).map (·.2) = (thoseU highB pl.ts own c.ta.n).map (perI pl) := by unfold ldL; rw [List.map_map]; rfl
    have hn : (ldL c pl own).length = n := by unfold ldL; unfold cosL at hl; simpa using hl
    rw [hR]
    refine Bch.rwindow_any (n := n) (ha := ha) (hb := hb) ?_ ?_ hn (by have := ldL_len c pl own; have := hF.counts; omega) (ldL_lb hC hF own) hd hmost
    · rw [e1]; exact hP.k
    · rw [e2]; exact hP.g)
  have hper := Lib.hid (fun x (hx : x < c.ta.n) => show per pl.ts x = (perI pl x : Int) ∧ perI pl x ≤ 1048576 from by
    obtain ⟨h1, h2, h3⟩ := perI_le hC hF hx
    exact ⟨h3.symm, h2⟩)
  have hta := Lib.hid (fun W (ho : Only (fun _ => False) W2 W) x (hx : x < c.ta.n) => show ∃ t b off, pl.ts[x]? = some t ∧ prio pl.ts x = t.p ∧ per pl.ts x = t.pe ∧ c.ta.A = some ⟨b, off, none⟩ ∧ b < W.heap.size ∧ TaskCells W b (off + x * 7) t from by
    have hT := (hC.new (hO2.trans' ho)).t
    obtain ⟨t, ht⟩ : ∃ t, pl.ts[x]? = some t := ⟨_, List.getElem?_eq_getElem (by rw [hT.len]; exact hx)⟩
    obtain ⟨b, off, hA, hb, hCe⟩ := hT.at_ x t ht
    exact ⟨t, b, off, ht, prio_at ht, per_at ht, hA, hb, hCe⟩)
  have hsuc := Lib.hid (cosL_succ c pl own)
  have hsup := Lib.hid (perL_succ pl own)
  have hs0 : cosL c pl own 0 = [] := rfl
  have hp0 : perL pl own 0 = [] := rfl
  have hcn := hF.counts
  obtain ⟨cf, hcf⟩ : ∃ cf, cf = cosI c pl := ⟨_, rfl⟩
  rw [← hcf] at ccos hsuc
  obtain ⟨CL, hCL⟩ : ∃ CL, CL = cosL c pl own := ⟨_, rfl⟩
  obtain ⟨PL, hPL⟩ : ∃ PL, PL = perL pl own := ⟨_, rfl⟩
  rw [← hCL] at cwin hsuc hs0
  rw [← hPL] at cwin hsup hp0
  have hs0' := Lib.hid hs0
  have hp0' := Lib.hid hp0
  have hown' := Lib.hid hown
  obtain ⟨Z, hZ⟩ : ∃ Z, Z = GrowU R w := ⟨_, rfl⟩
  rw [← hZ]
  have hfin := Lib.hid (fun W (ho : Only (fun _ => False) W2 W) => show Z (.returned (U R)) W from by rw [hZ]; exact ⟨rfl, hO2.trans' ho⟩)
  have htn9 : c.ta.n ≤ 8 := by omega
  rw [← hcv]
  unfold ConfV.val at hcv
  subst hcv
  unfold CYv at hcy
  unfold ConfV.cells at hW2
  have hW2' := Lib.hid hW2
  clear hZ hq hO2 b0 hW2 hC hF hR hown hd hmost hcn hcf hCL hPL hs0 hp0
  obtain ⟨c0, wy, h, mi, ⟨mA, mn, mc⟩, g, ⟨cA, cn, cc⟩, ⟨eA, en, ec⟩, ⟨tA, tn, tc⟩, ⟨lA, ln, lc⟩⟩ := c
  dsimp only at *
  obtain ⟨d0, d1, d2, d3, d4, d5, d6, d7, d8, d9, dl⟩ := hcy.out W2 (Only.refl _ _)
  go_enter Tryz.func52, Tryz.ntmps52
  go_upto_region 1 with fail
  rw [← hq'.out]
  rw [← hW2'.out]
  go_wp2
  clear d0 d1 d2 d3 d4 d5 d6 d7 d8 d9 dl
  go_loopw [9, 10, 11, 16] (fun u9 u10 _ i' wr => ∃ (k m : Nat) (hk hg : Option Nat), i' = .int .i64 k ∧ k ≤ tn ∧ m ≤ k ∧ Hid (Pair 36 W2 wr u9 hk m (CL k) u10 hg m (PL k))) (fun _ _ _ i' _ => tn - (intOf i').toNat)
  case atStart =>
    refine ⟨0, 0, none, none, rfl, Nat.zero_le _, Nat.le_refl _, ?_⟩
    rw [hs0'.out, hp0'.out]
    exact Lib.hid ⟨Win.nil _ _ _, Win.nil _ _ _, (fun _ h => by cases h), (fun _ h => by cases h), (fun _ h => by cases h), Only.refl _ _⟩
  case round =>
    obtain ⟨k, m, hk1, hg1, rfl, hk, hmk, hP⟩ := hrel
    obtain ⟨ws, hws⟩ : ∃ ws : World, ws = wr := ⟨_, rfl⟩
    subst hws
    by_cases hkn : k < tn
    · have hkn' : (k : Int) < (tn : Int) := by omega
      obtain ⟨t, tb, toff, htk, htp, htpe, hA, htb, c0', c1', c2', c3', c4', c5', c6'⟩ := hta.out ws hP.out.only k hkn
      obtain ⟨t2, tb2, toff2, -, htp2, -, hA2, -, e0, -⟩ := hta.out ws hP.out.only i hi
      rw [hA] at hA2
      cases hA2
      subst hA
      obtain ⟨hpe, hpe9⟩ := hper.out k hkn
      rw [htpe] at hpe
      have hs1 := hsuc.out k
      have hp1 := hsup.out k
      rw [htp] at hs1 hp1
      rw [← htp2, ← hown'.out] at e0
      have q1 := Lib.hid (fun W (ho : Only (fun _ => False) W2 W) => ccos.out W ho k hkn)
      obtain ⟨CO, hCO⟩ : ∃ CO, CO = cf k := ⟨_, rfl⟩
      obtain ⟨PE, hPE⟩ : ∃ PE, PE = perI pl k := ⟨_, rfl⟩
      rw [← hCO] at q1 hs1
      rw [← hPE] at hpe hpe9 hp1
      have hi' : (i : Int) < tn := by omega
      clear htk htp htpe htp2 hCO hPE
      obtain ⟨tp, tth, tpe, tde, tfr, tfl, ⟨oA, on, oc⟩⟩ := t
      simp only at *
      subst hpe
      have hw9 : IntKind.u64.wrap (PE : Int) = (PE : Int) := by rw [IntKind.wrap_u64]; omega
      obtain ⟨d0, d1, d2, d3, d4, d5, d6, d7, d8, d9, dl⟩ := hcy.out ws hP.out.only
      go_wp2
      go_upto_region 5 with fail
      obtain ⟨wb, hwb⟩ : ∃ wb, wb = ws.alloc (.cells #[.int .i64 tp, .int .i64 tth, .int .i64 (PE : Int), .int .i64 tde, .int .i64 tfr, .int .i64 tfl, .slice oA on oc] 49) := ⟨_, rfl⟩
      obtain ⟨X, hX⟩ : ∃ X, X = ws.heap.size := ⟨_, rfl⟩
      rw [← hwb]
      rw [← hX]
      have P0 : Pair 36 W2 wb u9 hk1 m (CL k) u10 hg1 m (PL k) := by rw [hwb]; exact hP.out.alloc _
      have L0 : Loc wb X (.cells #[.int .i64 tp, .int .i64 tth, .int .i64 (PE : Int), .int .i64 tde, .int .i64 tfr, .int .i64 tfl, .slice oA on oc] 49) hk1 hg1 := by rw [hwb, hX]; exact hP.out.fresh _
      have hoB : Only (fun _ => False) ws wb := by rw [hwb]; exact (Only.refl _ ws).alloc _
      have e1 := hoB.cell e0 (fun h => h)
      have f0 := row_cell (L := [.int .i64 tp, .int .i64 tth, .int .i64 (PE : Int), .int .i64 tde, .int .i64 tfr, .int .i64 tfl, .slice oA on oc]) L0.at_ (i := 0) rfl
      clear hwb hX hoB e0 d0 d1 d2 d3 d4 d5 d6 d7 d8 d9 dl c0' c1' c2' c3' c4' c5' c6'
      obtain ⟨d0, d1, d2, d3, d4, d5, d6, d7, d8, d9, dl⟩ := hcy.out wb P0.only
      have p8 := wd_cell d8
      have g0 := wd_cell f0
      have g1 := wd_cell e1
      have hex := wd_ex wb
      by_cases hlt : own ≤ tp
      · rw [if_pos (show highB tp own = true by unfold highB; simpa using hlt)] at hs1 hp1
        have hs2 := Lib.hid hs1
        have hp2 := Lib.hid hp1
        clear hs1 hp1
        refine wp_region_wd (by kernel_rfl) (by kernel_rfl) ?_
        repeat (go_big_quiet_step (fail))
        refine wpQuiet_nil ?_
        rintro _ ⟨v, rfl⟩
        have hv := Lib.hid v.ok
        obtain ⟨wc, hwc⟩ : ∃ wc, wc = v.W := ⟨_, rfl⟩
        rw [← hwc] at hv
        rw [← hwc]
        have P1 := P0.kept hv.out
        have L1 := L0.kept hv.out
        clear P0 L0 p8 g0 g1 hex e1 f0 hwc hv d0 d1 d2 d3 d4 d5 d6 d7 d8 d9 dl
        go_upto_region 6 with fail
        have hk5 := Lib.hid (fun W (vk vg : Value) (hk hg : Option Nat) (nk ng : Nat) (ks gs : List Value) (hP : Pair 36 W2 W vk hk nk ks vg hg ng gs) (hL : Loc W X (.cells #[.int .i64 tp, .int .i64 tth, .int .i64 (PE : Int), .int .i64 tde, .int .i64 tfr, .int .i64 tfl, .slice oA on oc] 49) hk hg) => show W.cell? ⟨q, 0, none⟩ = some (.int .i64 c0) ∧ W.cell? ⟨q, 1, none⟩ = some (.int .i64 wy) ∧ W.cell? ⟨q, 2, none⟩ = some (.int .i64 h) ∧ W.cell? ⟨q, 3, none⟩ = some (.int .i64 mi) ∧ W.cell? ⟨q, 4, none⟩ = some (.slice mA mn mc) ∧ W.cell? ⟨q, 5, none⟩ = some (.int .i64 g) ∧ W.cell? ⟨q, 6, none⟩ = some (.slice cA cn cc) ∧ W.cell? ⟨q, 7, none⟩ = some (.slice eA en ec) ∧ W.cell? ⟨q, 8, none⟩ = some (.slice (some ⟨tb, toff, none⟩) tn tc) ∧ W.cell? ⟨q, 9, none⟩ = some (.slice lA ln lc) ∧ q < W.heap.size ∧ W.cell? ⟨X, 2, none⟩ = some (.int .i64 (PE : Int)) ∧ X < W.heap.size from by
          obtain ⟨d0, d1, d2, d3, d4, d5, d6, d7, d8, d9, dl⟩ := hcy.out W hP.only
          exact ⟨d0, d1, d2, d3, d4, d5, d6, d7, d8, d9, dl, row_cell (L := [.int .i64 tp, .int .i64 tth, .int .i64 (PE : Int), .int .i64 tde, .int .i64 tfr, .int .i64 tfl, .slice oA on oc]) hL.at_ (i := 2) rfl, row_lt hL.at_⟩)
        have hkl := Lib.hid P1.k.lt
        go_region_held3 (fun W0 => W0.cell? ⟨q, 0, none⟩ = some (.int .i64 c0) ∧ W0.cell? ⟨q, 1, none⟩ = some (.int .i64 wy) ∧ W0.cell? ⟨q, 2, none⟩ = some (.int .i64 h) ∧ W0.cell? ⟨q, 3, none⟩ = some (.int .i64 mi) ∧ W0.cell? ⟨q, 4, none⟩ = some (.slice mA mn mc) ∧ W0.cell? ⟨q, 5, none⟩ = some (.int .i64 g) ∧ W0.cell? ⟨q, 6, none⟩ = some (.slice cA cn cc) ∧ W0.cell? ⟨q, 7, none⟩ = some (.slice eA en ec) ∧ W0.cell? ⟨q, 8, none⟩ = some (.slice (some ⟨tb, toff, none⟩) tn tc) ∧ W0.cell? ⟨q, 9, none⟩ = some (.slice lA ln lc) ∧ q < W0.heap.size ∧ W0.cell? ⟨X, 2, none⟩ = some (.int .i64 (PE : Int)) ∧ X < W0.heap.size)
          (exact hk5.out _ _ _ _ _ _ _ _ _ (by repeat (first | (with_reducible assumption) | apply Pair.alloc | apply Pair.drew)) (by repeat (first | (with_reducible assumption) | apply Loc.alloc | apply Loc.drew)))
          (first
            | (go_at_call 23; (with_reducible refine (q1.out _ (Pair.only (by repeat (first | (with_reducible assumption) | apply Pair.alloc | apply Pair.drew)))).mono ?_); rintro _ w6 ⟨rfl, ho6⟩; have P2 := Pair.kept (by repeat (first | (with_reducible assumption) | apply Pair.alloc | apply Pair.drew)) ho6; have L2 := Loc.kept (by repeat (first | (with_reducible assumption) | apply Loc.alloc | apply Loc.drew)) ho6; have hz6 := ho6.size; simp at hz6)
            | (refine step_append_win rfl (.tmp 30) (.tmp 34) 106 rfl 36 (Value.int .u64 0) 1 8 Tryz.underlying106 info22 rfl (by decide) (v := u9) (h := hk1) (by rfl) (Pair.k (by repeat (first | (with_reducible assumption) | apply Pair.alloc | apply Pair.drew))) _ 1 1 (by rfl) [U CO] rfl (fun _ => ⟨_, rfl, pair_one (by repeat (first | exact heap_new_at _ _ rfl | exact heap_new_at _ _ (by simp) | apply heap_kept_alloc | (refine Only.heap ho6 ?_ (fun h => h)) | (refine Only.heap hO5.out ?_ (fun e => by have h7 := hkl.out _ e.symm; first | omega | (simp at h7; omega)))))⟩) (by simp [Value.oneCell']) (by unfold maxLen; omega) (by omega) ?_; intro v5 w5 h5 hW5 hO5 hh5; have P5 := Pair.grow_k (by repeat (first | (with_reducible assumption) | apply Pair.alloc | apply Pair.drew)) hW5.out hO5.out hh5.out; have L5 := Loc.grow_k (by repeat (first | (with_reducible assumption) | apply Loc.alloc | apply Loc.drew)) hO5.out hh5.out)
            | (refine step_append_win rfl (.tmp 36) (.tmp 40) 106 rfl 36 (Value.int .u64 0) 1 8 Tryz.underlying106 info22 rfl (by decide) (v := u10) (h := hg1) (by rfl) (Pair.g (by repeat (first | (with_reducible assumption) | apply Pair.alloc | apply Pair.drew))) _ 1 1 (by rfl) [U PE] rfl (fun _ => ⟨_, rfl, pair_one (by repeat (first | exact heap_new_at _ _ rfl | exact heap_new_at _ _ (by simp) | apply heap_kept_alloc | (refine Only.heap ho6 ?_ (fun h => h)) | (refine Only.heap hO5.out ?_ (fun e => by have h7 := hkl.out _ e.symm; first | omega | (simp at h7; omega)))))⟩) (by simp [Value.oneCell']) (by unfold maxLen; omega) (by omega) ?_; intro v7 w7 h7 hW7 hO7 hh7; have P7 := Pair.grow_g (by repeat (first | (with_reducible assumption) | apply Pair.alloc | apply Pair.drew)) hW7.out hO7.out hh7.out; have L7 := Loc.grow_g (by repeat (first | (with_reducible assumption) | apply Loc.alloc | apply Loc.drew)) hO7.out hh7.out))
        all_goals
          have PF := Lib.hid P7
          clear P7 L7
          go_wp2
          go_roundw
          case rel => exact ⟨k + 1, m + 1, h5, h7, by go_num, by omega, by omega, by rw [hs2.out, hp2.out]; exact PF⟩
          case measure => simp [intOf]; omega
      · rw [if_neg (show ¬ highB tp own = true by unfold highB; simpa using hlt), List.append_nil] at hs1 hp1
        have hs2 := Lib.hid hs1
        have hp2 := Lib.hid hp1
        clear hs1 hp1
        refine wp_region_wd (by kernel_rfl) (by kernel_rfl) ?_
        repeat (go_big_quiet_step (fail))
        refine wpQuiet_nil ?_
        rintro _ ⟨v, rfl⟩
        have hPe := Lib.hid (P0.kept v.ok)
        clear P0 L0 p8 g0 g1 hex e1 f0 d0 d1 d2 d3 d4 d5 d6 d7 d8 d9 dl
        go_wp2
        go_roundw
        case rel => exact ⟨k + 1, m, hk1, hg1, by go_num, by omega, by omega, by rw [hs2.out, hp2.out]; exact hPe⟩
        case measure => simp [intOf]; omega
    · obtain rfl : k = tn := by omega
      have hkn' : ¬ (k : Int) < (k : Int) := by omega
      have q2 := Lib.hid (cwin.out ws _ _ _ _ _ hP.out)
      have hO := Lib.hid hP.out.only
      go_wp2_with fail
      refine q2.out.mono ?_
      rintro e w7 ⟨rfl, ho⟩
      have hf := Lib.hid (hfin.out w7 (hO.out.trans' ho))
      clear ho
      go_wp2
      exact hf.out
end Adm
end Go.Proofs.YtlbinlhaejhobaaGreatDoor
