/- The document's layer 28: Lines. -/
import Derived.Test.YtlbinlhaejhobaaGreatDoorRef8b
namespace Go.Proofs.YtlbinlhaejhobaaGreatDoor
namespace Adm
open Go Go.RowKit Rca Sct Lin Lck Cst Rld Pre
open Bch (U sA sC sM sA_le sC_le sM_le GrowU Ld LRow LB orU)
theorem lm_a {ws wp : World} {o : Obj} (hp : Only (fun _ => False) ws wp) :
    ∃ X, Value.pointer (some ⟨wp.heap.size, 0, none⟩) = .pointer (some ⟨X, 0, none⟩) ∧ ws.heap.size ≤ X ∧ (wp.alloc o).heap[X]? = some o ∧ Only (fun _ => False) ws (wp.alloc o) :=
  ⟨_, rfl, hp.size, heap_new_at wp o rfl, hp.alloc _⟩
theorem lm_b {ws wk : World} {X : Nat} {a b c d e f u0 u1 u2 u3 u4 u5 : Value} {T : TypeId} (hp : Only (fun _ => False) ws wk) (h : ws.heap.size ≤ X ∧ wk.heap[X]? = some (.cells #[a, b, c, d, e, f] T (0, 0))) :
    ∃ Y, Value.pointer (some ⟨X, 0, none⟩) = .pointer (some ⟨Y, 0, none⟩) ∧ ws.heap.size ≤ Y ∧ ((((((wk.setCell ⟨X, 0, none⟩ u0).setCell ⟨X, 1, none⟩ u1).setCell ⟨X, 2, none⟩ u2).setCell ⟨X, 3, none⟩ u3).setCell ⟨X, 4, none⟩ u4).setCell ⟨X, 5, none⟩ u5).heap[Y]? = some (.cells [u0, u1, u2, u3, u4, u5].toArray T (0, 0)) ∧ Only (fun _ => False) ws ((((((wk.setCell ⟨X, 0, none⟩ u0).setCell ⟨X, 1, none⟩ u1).setCell ⟨X, 2, none⟩ u2).setCell ⟨X, 3, none⟩ u3).setCell ⟨X, 4, none⟩ u4).setCell ⟨X, 5, none⟩ u5) := by
  obtain ⟨h1, h2⟩ := h
  have h3 : wk.heap[X]? = some (.cells [a, b, c, d, e, f].toArray T (0, 0)) := h2
  refine ⟨X, rfl, h1, row_set (row_set (row_set (row_set (row_set (row_set h3 0 u0) 1 u1) 2 u2) 3 u3) 4 u4) 5 u5, ?_⟩
  have hx : ∀ i : Nat, (⟨X, i, none⟩ : Addr).block < ws.heap.size → False := fun i hi => by dsimp only at hi; omega
  exact (((((hp.setCell (hx 0) _).setCell (hx 1) _).setCell (hx 2) _).setCell (hx 3) _).setCell (hx 4) _).setCell (hx 5) _
theorem yy_new {ws wp wk : World} {o : Obj} (hp : Only (fun _ => False) ws wp) (ho : Only (fun _ => False) (wp.alloc o) wk) : ws.heap.size ≤ wp.heap.size ∧ wk.heap[wp.heap.size]? = some o := ⟨hp.size, ho.heap (heap_new_at wp o rfl) (fun h => h)⟩
theorem yy_new' {ws wp wk : World} {o : Obj} (hp : Only (fun _ => False) ws wp) (ho : Only (fun _ => False) (wp.alloc o).drew wk) : ws.heap.size ≤ wp.heap.size ∧ wk.heap[wp.heap.size]? = some o := ⟨hp.size, ho.heap (heap_new_at wp o rfl) (fun h => h)⟩
theorem yy_on {ws wk wl : World} {o : Obj} {X : Nat} (h : ws.heap.size ≤ X ∧ wk.heap[X]? = some o) (ho : Only (fun _ => False) wk wl) : ws.heap.size ≤ X ∧ wl.heap[X]? = some o := ⟨h.1, ho.heap h.2 (fun h => h)⟩
theorem yy_ge {ws wk : World} {o : Obj} {X : Nat} (h : ws.heap.size ≤ X ∧ wk.heap[X]? = some o) : ¬ X < ws.heap.size := by have := h.1; omega
theorem yy_six {W : World} {N X : Nat} {a b c d e f : Value} {T : TypeId} (h : N ≤ X ∧ W.heap[X]? = some (.cells #[a, b, c, d, e, f] T (0, 0))) : W.cell? ⟨X, 0, none⟩ = some a ∧ W.cell? ⟨X, 1, none⟩ = some b ∧ W.cell? ⟨X, 2, none⟩ = some c ∧ W.cell? ⟨X, 3, none⟩ = some d ∧ W.cell? ⟨X, 4, none⟩ = some e ∧ W.cell? ⟨X, 5, none⟩ = some f ∧
    W.frozen? ⟨X, 0, none⟩ = false ∧ W.frozen? ⟨X, 1, none⟩ = false ∧ W.frozen? ⟨X, 2, none⟩ = false ∧ W.frozen? ⟨X, 3, none⟩ = false ∧ W.frozen? ⟨X, 4, none⟩ = false ∧ W.frozen? ⟨X, 5, none⟩ = false ∧ X < W.heap.size := by
  have r : W.heap[X]? = some (.cells [a, b, c, d, e, f].toArray T (0, 0)) := h.2
  exact ⟨row_cell r (i := 0) rfl, row_cell r (i := 1) rfl, row_cell r (i := 2) rfl, row_cell r (i := 3) rfl, row_cell r (i := 4) rfl, row_cell r (i := 5) rfl, row_free r 0, row_free r 1, row_free r 2, row_free r 3, row_free r 4, row_free r 5, row_lt r⟩
def rspI (c : ConfV) (d : ConfL) (pl : Tks) (i : Nat) : Nat := Bch.win (Bch.dem (dlyI c d pl i) (ldL c pl (prio pl.ts i))) 3000
def rlnI (c : ConfV) (d : ConfL) (pl : Tks) (i : Nat) : LnV :=
  ⟨cosI c pl i, dlyI c d pl i, rspI c d pl i, if rspI c d pl i = 0 then 0 else cntI c pl i (rspI c d pl i), relI c pl i, if rspI c d pl i = 0 then 0 else sM (cntI c pl i (rspI c d pl i)) (relI c pl i)⟩
def rlnL (c : ConfV) (d : ConfL) (pl : Tks) (k : Nat) : List Value := (List.range k).flatMap (fun i => (rlnI c d pl i).cells)
theorem rlnL_succ (c : ConfV) (d : ConfL) (pl : Tks) (k : Nat) : rlnL c d pl (k + 1) = rlnL c d pl k ++ (rlnI c d pl k).cells := by
  unfold rlnL
  rw [List.range_succ, List.flatMap_append]
  simp
theorem infoR : (Tryz.prog.info? 45).map (fun i => (i.zero, i.size, i.bytes)) = some (some (.agg #[U 0, U 0, U 0, U 0, U 0, U 0]), 6, 48) := by kernel_rfl
def RlEnd (c : ConfV) (d : ConfL) (pl : Tks) (w : World) (e : Ending) (w' : World) : Prop :=
  ∃ (A : Option Addr) (cap : Nat) (h : Option Nat), e = .returned (.slice A c.ta.n cap) ∧ Win w' 45 6 (.slice A c.ta.n cap) h c.ta.n (rlnL c d pl c.ta.n) ∧ (∀ b, h = some b → w.heap.size ≤ b) ∧ Only (fun _ => False) w w'
set_option maxRecDepth 100000 in
set_option maxHeartbeats 8000000 in
theorem rlines_any {w : World} {c : ConfV} {d : ConfL} {pl : Tks} (hC : ConfIn w c d pl) (hF : Fin0.Fine c d pl) :
    Calls Tryz.prog 20 #[c.val, .int .u64 3000] w (RlEnd c d pl w) := by
  obtain ⟨q, hq⟩ : ∃ q, q = w.heap.size := ⟨_, rfl⟩
  obtain ⟨W2, hW2⟩ : ∃ W2, W2 = w.alloc (.cells c.cells.toArray 27) := ⟨_, rfl⟩
  have hO2 : Only (fun _ => False) w W2 := by rw [hW2]; exact (Only.refl _ w).alloc _
  have b0 : W2.heap[q]? = some (.cells c.cells.toArray 27 (0, 0)) := by rw [hW2]; exact heap_new_at _ _ hq.symm
  have hq' := Lib.hid hq
  have hcy := Lib.hid (fun W (ho : Only (fun _ => False) W2 W) => cyv_of (ho.heap b0 (fun h => h)))
  obtain ⟨cv, hcv⟩ : ∃ cv, cv = c.val := ⟨_, rfl⟩
  have ccos := Lib.hid (fun W (ho : Only (fun _ => False) W2 W) (x : Nat) (hx : x < c.ta.n) => show Calls Tryz.prog 23 #[cv, .int .i64 (x : Int)] W (GrowU (cosI c pl x) W) from by rw [hcv]; exact rcost_any (hC.new (hO2.trans' ho)) hF hx)
  have cdly := Lib.hid (fun W (ho : Only (fun _ => False) W2 W) x (hx : x < c.ta.n) => show Calls Tryz.prog 53 #[cv, .int .i64 (x : Int)] W (GrowU (dlyI c d pl x) W) from by rw [hcv]; exact rdly_any (hC.new (hO2.trans' ho)) hF hx)
  have cbnd := Lib.hid (fun W (ho : Only (fun _ => False) W2 W) x (hx : x < c.ta.n) => show Calls Tryz.prog 56 #[cv, .int .i64 (x : Int)] W (AnsI (relI c pl x : Int) W) from by rw [hcv]; exact rrel_any (hC.new (hO2.trans' ho)) hF hx)
  have crsp := Lib.hid (fun W (ho : Only (fun _ => False) W2 W) x (hx : x < c.ta.n) => show Calls Tryz.prog 52 #[cv, .int .i64 (x : Int), U (dlyI c d pl x), .int .u64 3000] W (GrowU (rspI c d pl x) W) from by rw [hcv]; exact rresp_any (hC.new (hO2.trans' ho)) hF hx (dlyI_le hC hF x) (most := 3000) (by omega))
  have hrs9 := Lib.hid (fun x => show rspI c d pl x ≤ 3000 from by
    have h := Bch.win_is (Bch.dem (dlyI c d pl x) (ldL c pl (prio pl.ts x))) 3000
    unfold rspI
    rcases h with ⟨h, -⟩ | ⟨-, h, -⟩ <;> omega)
  have ccnt := Lib.hid (fun W (ho : Only (fun _ => False) W2 W) x (hx : x < c.ta.n) => show Calls Tryz.prog 57 #[cv, .int .i64 (x : Int), U (rspI c d pl x)] W (GrowU (cntI c pl x (rspI c d pl x)) W) from by rw [hcv]; exact rcnt_any (hC.new (hO2.trans' ho)) hF hx (by have := hrs9.out x; omega))
  have hrl9 := Lib.hid (fun x => relI_le hC hF x)
  have hlv := Lib.hid (rlnL_succ c d pl)
  have hlc := Lib.hid (fun x => show (rlnI c d pl x).cells = [U (cosI c pl x), U (dlyI c d pl x), U (rspI c d pl x), U (if rspI c d pl x = 0 then 0 else cntI c pl x (rspI c d pl x)), U (relI c pl x), U (if rspI c d pl x = 0 then 0 else sM (cntI c pl x (rspI c d pl x)) (relI c pl x))] from rfl)
  have htn9 : c.ta.n ≤ 8 := by have := hF.counts; omega
  have hcn9 := Lib.hid (fun x => show cntI c pl x (rspI c d pl x) ≤ 18446744073709551615 from by unfold cntI; exact totU_le _ _)
  obtain ⟨fcn, hfcn⟩ : ∃ f : Nat → Nat, f = fun x => cntI c pl x (rspI c d pl x) := ⟨_, rfl⟩
  have hcne : ∀ x, cntI c pl x (rspI c d pl x) = fcn x := fun x => by rw [hfcn]
  simp only [hcne] at ccnt hlc hcn9
  obtain ⟨fr, hfr⟩ : ∃ f, f = rspI c d pl := ⟨_, rfl⟩
  rw [← hfr] at crsp hrs9 ccnt hlc
  obtain ⟨fco, hfco⟩ : ∃ f, f = cosI c pl := ⟨_, rfl⟩
  rw [← hfco] at ccos hlc
  obtain ⟨fdl, hfdl⟩ : ∃ f, f = dlyI c d pl := ⟨_, rfl⟩
  rw [← hfdl] at cdly crsp hlc
  obtain ⟨fre, hfre⟩ : ∃ f, f = relI c pl := ⟨_, rfl⟩
  rw [← hfre] at cbnd hrl9 hlc
  obtain ⟨Z, hZ⟩ : ∃ Z, Z = RlEnd c d pl w := ⟨_, rfl⟩
  rw [← hZ]
  obtain ⟨RL, hRL⟩ : ∃ RL, RL = rlnL c d pl := ⟨_, rfl⟩
  have hfin := Lib.hid (fun W (ho : Only (fun _ => False) W2 W) (A : Option Addr) (cap : Nat) (h : Option Nat) (hW : Win W 45 6 (.slice A c.ta.n cap) h c.ta.n (RL c.ta.n)) (hn : ∀ b, h = some b → W2.heap.size ≤ b) => show Z (.returned (.slice A c.ta.n cap)) W from by
    rw [hZ]
    exact ⟨A, cap, h, rfl, by rw [← hRL]; exact hW, fun b hb => Nat.le_trans hO2.size (hn b hb), hO2.trans' ho⟩)
  have hR0 : RL 0 = [] := by rw [hRL]; rfl
  rw [← hRL] at hlv
  have hR0' := Lib.hid hR0
  rw [← hcv]
  unfold ConfV.val at hcv
  subst hcv
  unfold CYv at hcy
  unfold ConfV.cells at hW2
  have hW2' := Lib.hid hW2
  clear hZ hq hO2 b0 hW2 hC hF hRL hR0 hfcn hcne hfr hfco hfdl hfre
  obtain ⟨c0, wy, h, mi, ⟨mA, mn, mc⟩, g, ⟨cA, cn, cc⟩, ⟨eA, en, ec⟩, ⟨tA, tn, tc⟩, ⟨lA, ln, lc⟩⟩ := c
  dsimp only at *
  obtain ⟨d0, d1, d2, d3, d4, d5, d6, d7, d8, d9, dl⟩ := hcy.out W2 (Only.refl _ _)
  go_enter Tryz.func20, Tryz.ntmps20
  go_upto_region 1 with fail
  rw [← hq'.out]
  rw [← hW2'.out]
  go_wp2
  clear d0 d1 d2 d3 d4 d5 d6 d7 d8 d9 dl
  go_loopw [5, 6, 11] (fun u5 _ i' wr => ∃ (k : Nat) (A : Option Addr) (cap : Nat) (h : Option Nat), i' = .int .i64 k ∧ k ≤ tn ∧ u5 = .slice A k cap ∧ Hid (Win wr 45 6 (.slice A k cap) h k (RL k)) ∧ Hid (∀ b, h = some b → W2.heap.size ≤ b) ∧ Hid (Only (fun _ => False) W2 wr)) (fun _ _ i' _ => tn - (intOf i').toNat)
  case atStart => exact ⟨0, none, 0, none, rfl, Nat.zero_le _, rfl, by rw [hR0'.out]; exact Lib.hid (Win.nil _ _ _), Lib.hid (fun b hb => by cases hb), Lib.hid (Only.refl _ _)⟩
  case round =>
    obtain ⟨k, A, cap, h6, rfl, hk, rfl, hWk, hnk, hO⟩ := hrel
    obtain ⟨ws, hws⟩ : ∃ ws : World, ws = wr := ⟨_, rfl⟩
    subst hws
    by_cases hkn : k < tn
    · have hkn' : (k : Int) < (tn : Int) := by omega
      have hlk := hlc.out k
      have hlr := hlv.out k
      have hxr9 := hrs9.out k
      have hxc9 := hcn9.out k
      have hxl9 := hrl9.out k
      have ca := Lib.hid (fun W (ho : Only (fun _ => False) ws W) => ccos.out W (hO.out.trans' ho) k hkn)
      have cb := Lib.hid (fun W (ho : Only (fun _ => False) ws W) => cdly.out W (hO.out.trans' ho) k hkn)
      have cc9 := Lib.hid (fun W (ho : Only (fun _ => False) ws W) => cbnd.out W (hO.out.trans' ho) k hkn)
      have cr := Lib.hid (fun W (ho : Only (fun _ => False) ws W) => crsp.out W (hO.out.trans' ho) k hkn)
      have cn9 := Lib.hid (fun W (ho : Only (fun _ => False) ws W) => ccnt.out W (hO.out.trans' ho) k hkn)
      rw [hlk] at hlr
      obtain ⟨xco, hxco⟩ : ∃ n, n = fco k := ⟨_, rfl⟩
      obtain ⟨xde, hxde⟩ : ∃ n, n = fdl k := ⟨_, rfl⟩
      obtain ⟨xre, hxre⟩ : ∃ n, n = fr k := ⟨_, rfl⟩
      obtain ⟨xpr, hxpr⟩ : ∃ n, n = fcn k := ⟨_, rfl⟩
      obtain ⟨xrl, hxrl⟩ : ∃ n, n = fre k := ⟨_, rfl⟩
      rw [← hxco] at ca hlr
      rw [← hxde] at cb cr hlr
      rw [← hxre] at cr cn9 hlr hxr9
      rw [← hxpr] at cn9 hlr hxc9
      rw [← hxrl] at cc9 hlr hxl9
      have hw9 : IntKind.u64.wrap (xrl : Int) = (xrl : Int) := by rw [IntKind.wrap_u64]; omega
      have hlr' := Lib.hid hlr
      clear hlk hlr hxco hxde hxre hxpr hxrl
      obtain ⟨d0, d1, d2, d3, d4, d5, d6, d7, d8, d9, dl⟩ := hcy.out ws hO.out
      have hk2 := Lib.hid (fun W (ho : Only (fun _ => False) ws W) => show W.cell? ⟨q, 0, none⟩ = some (.int .i64 c0) ∧ W.cell? ⟨q, 1, none⟩ = some (.int .i64 wy) ∧ W.cell? ⟨q, 2, none⟩ = some (.int .i64 h) ∧ W.cell? ⟨q, 3, none⟩ = some (.int .i64 mi) ∧ W.cell? ⟨q, 4, none⟩ = some (.slice mA mn mc) ∧ W.cell? ⟨q, 5, none⟩ = some (.int .i64 g) ∧ W.cell? ⟨q, 6, none⟩ = some (.slice cA cn cc) ∧ W.cell? ⟨q, 7, none⟩ = some (.slice eA en ec) ∧ W.cell? ⟨q, 8, none⟩ = some (.slice tA tn tc) ∧ W.cell? ⟨q, 9, none⟩ = some (.slice lA ln lc) ∧ q < W.heap.size from hcy.out W (hO.out.trans' ho))
      have hpw : Only (fun _ => False) ws ws := Only.refl _ _
      go_upto_region 5 with fail
      go_cut [7] from 14 to 24 (fun u7 wd => ∃ X, u7 = .pointer (some ⟨X, 0, none⟩) ∧ ws.heap.size ≤ X ∧ wd.heap[X]? = some (.cells [U xco, U xde, .int .u64 0, .int .u64 0, U xrl, .int .u64 0].toArray 45 (0, 0)) ∧ Only (fun _ => False) ws wd)
      case first =>
        go_region_held3 (fun W0 => W0.cell? ⟨q, 0, none⟩ = some (.int .i64 c0) ∧ W0.cell? ⟨q, 1, none⟩ = some (.int .i64 wy) ∧ W0.cell? ⟨q, 2, none⟩ = some (.int .i64 h) ∧ W0.cell? ⟨q, 3, none⟩ = some (.int .i64 mi) ∧ W0.cell? ⟨q, 4, none⟩ = some (.slice mA mn mc) ∧ W0.cell? ⟨q, 5, none⟩ = some (.int .i64 g) ∧ W0.cell? ⟨q, 6, none⟩ = some (.slice cA cn cc) ∧ W0.cell? ⟨q, 7, none⟩ = some (.slice eA en ec) ∧ W0.cell? ⟨q, 8, none⟩ = some (.slice tA tn tc) ∧ W0.cell? ⟨q, 9, none⟩ = some (.slice lA ln lc) ∧ q < W0.heap.size)
          (exact hk2.out _ (by repeat (first | with_reducible assumption | with_reducible exact Only.refl _ _ | with_reducible refine Only.setCell ?_ (p := ⟨_, _, none⟩) (fun h => absurd h (yy_ge hzz)) _ | with_reducible apply Only.drew | with_reducible apply Only.alloc)))
          (first
            | (go_at_call 23; (with_reducible refine (ca.out _ (by repeat (first | with_reducible assumption | with_reducible exact Only.refl _ _ | with_reducible apply Only.drew | with_reducible apply Only.alloc))).mono ?_); rintro _ w5 ⟨rfl, ho5⟩; have Ho5 : Only (fun _ => False) ws w5 := Only.trans' (by repeat (first | with_reducible assumption | with_reducible exact Only.refl _ _ | with_reducible apply Only.drew | with_reducible apply Only.alloc)) ho5; (first | (replace hzz := yy_on hzz ho5) | (have hzz := yy_new (by repeat (first | with_reducible assumption | with_reducible exact Only.refl _ _ | with_reducible apply Only.drew | with_reducible apply Only.alloc)) ho5) | (have hzz := yy_new' (by repeat (first | with_reducible assumption | with_reducible exact Only.refl _ _ | with_reducible apply Only.drew | with_reducible apply Only.alloc)) ho5) | skip); (first | (have z9 := yy_six hzz; obtain ⟨z0, z1, z2, z3, z4, z5, f0, f1, f2, f3, f4, f5, zl⟩ := z9) | skip); clear ho5)
            | (go_at_call 53; (with_reducible refine (cb.out _ (by repeat (first | with_reducible assumption | with_reducible exact Only.refl _ _ | with_reducible apply Only.drew | with_reducible apply Only.alloc))).mono ?_); rintro _ w6 ⟨rfl, ho6⟩; have Ho6 : Only (fun _ => False) ws w6 := Only.trans' (by repeat (first | with_reducible assumption | with_reducible exact Only.refl _ _ | with_reducible apply Only.drew | with_reducible apply Only.alloc)) ho6; (first | (replace hzz := yy_on hzz ho6) | (have hzz := yy_new (by repeat (first | with_reducible assumption | with_reducible exact Only.refl _ _ | with_reducible apply Only.drew | with_reducible apply Only.alloc)) ho6) | (have hzz := yy_new' (by repeat (first | with_reducible assumption | with_reducible exact Only.refl _ _ | with_reducible apply Only.drew | with_reducible apply Only.alloc)) ho6) | skip); (first | (have z9 := yy_six hzz; obtain ⟨z0, z1, z2, z3, z4, z5, f0, f1, f2, f3, f4, f5, zl⟩ := z9) | skip); clear ho6)
            | (go_at_call 56; (with_reducible refine (cc9.out _ (by repeat (first | with_reducible assumption | with_reducible exact Only.refl _ _ | with_reducible apply Only.drew | with_reducible apply Only.alloc))).mono ?_); rintro _ w7 ⟨rfl, ho7⟩; have Ho7 : Only (fun _ => False) ws w7 := Only.trans' (by repeat (first | with_reducible assumption | with_reducible exact Only.refl _ _ | with_reducible apply Only.drew | with_reducible apply Only.alloc)) ho7; (first | (replace hzz := yy_on hzz ho7) | (have hzz := yy_new (by repeat (first | with_reducible assumption | with_reducible exact Only.refl _ _ | with_reducible apply Only.drew | with_reducible apply Only.alloc)) ho7) | (have hzz := yy_new' (by repeat (first | with_reducible assumption | with_reducible exact Only.refl _ _ | with_reducible apply Only.drew | with_reducible apply Only.alloc)) ho7) | skip); (first | (have z9 := yy_six hzz; obtain ⟨z0, z1, z2, z3, z4, z5, f0, f1, f2, f3, f4, f5, zl⟩ := z9) | skip); clear ho7))
        all_goals
          go_wp2
          go_meet
          case rel => first | with_reducible exact lm_b (by assumption) hzz | with_reducible exact lm_a (by assumption)
      obtain ⟨X, rfl, hXs, hX4, hO4⟩ := hcut
      obtain ⟨w4, hw4⟩ : ∃ w4 : World, w4 = wc := ⟨_, rfl⟩
      subst hw4
      have hX4' := Lib.hid hX4
      have hO4' := Lib.hid hO4
      clear hX4 hO4 hpw d0 d1 d2 d3 d4 d5 d6 d7 d8 d9 dl
      obtain ⟨d0, d1, d2, d3, d4, d5, d6, d7, d8, d9, dl⟩ := hcy.out w4 (hO.out.trans' hO4'.out)
      have y0 := row_cell hX4'.out (i := 0) rfl
      have y1 := row_cell hX4'.out (i := 1) rfl
      have y2 := row_cell hX4'.out (i := 2) rfl
      have y3 := row_cell hX4'.out (i := 3) rfl
      have y4 := row_cell hX4'.out (i := 4) rfl
      have y5 := row_cell hX4'.out (i := 5) rfl
      have yl := row_lt hX4'.out
      go_wp2_with fail
      refine (cr.out w4 hO4'.out).mono ?_
      rintro e w5 ⟨rfl, ho⟩
      have hX5 := Lib.hid (ho.heap hX4'.out (fun h => h))
      have hO5 := Lib.hid (hO4'.out.trans' ho)
      clear ho y0 y1 y2 y3 y4 y5 yl d0 d1 d2 d3 d4 d5 d6 d7 d8 d9 dl
      have y0 := row_cell hX5.out (i := 0) rfl
      have y1 := row_cell hX5.out (i := 1) rfl
      have y2 := row_cell hX5.out (i := 2) rfl
      have y3 := row_cell hX5.out (i := 3) rfl
      have y4 := row_cell hX5.out (i := 4) rfl
      have y5 := row_cell hX5.out (i := 5) rfl
      have yl := row_lt hX5.out
      have yf := row_free hX5.out 2
      obtain ⟨d0, d1, d2, d3, d4, d5, d6, d7, d8, d9, dl⟩ := hcy.out w5 (hO.out.trans' hO5.out)
      go_upto_region 7 with fail
      obtain ⟨w7, hw7⟩ : ∃ w7, w7 = w5.setCell ⟨X, 2, none⟩ (U xre) := ⟨_, rfl⟩
      rw [← hw7]
      have hX7 := Lib.hid (show w7.heap[X]? = some (.cells [U xco, U xde, U xre, .int .u64 0, U xrl, .int .u64 0].toArray 45 (0, 0)) from by rw [hw7]; exact row_set hX5.out 2 (U xre))
      have hO7 := Lib.hid (show Only (fun _ => False) ws w7 from by rw [hw7]; exact hO5.out.setCell (p := ⟨X, 2, none⟩) (fun h => absurd h (by dsimp only; omega)) _)
      clear hw7 y0 y1 y2 y3 y4 y5 yl yf d0 d1 d2 d3 d4 d5 d6 d7 d8 d9 dl
      by_cases hr0 : xre = 0
      · subst hr0
        have hlk2 := Lib.hid (show RL (k + 1) = RL k ++ [U xco, U xde, .int .u64 0, .int .u64 0, U xrl, .int .u64 0] from by rw [hlr'.out]; rfl)
        have hWx := Lib.hid (hWk.out.kept hO7.out (fun _ _ h => h))
        have hOx := Lib.hid (hO.out.trans' hO7.out)
        have y0 := row_cell hX7.out (i := 0) rfl
        have y1 := row_cell hX7.out (i := 1) rfl
        have y2 := row_cell hX7.out (i := 2) rfl
        have y3 := row_cell hX7.out (i := 3) rfl
        have y4 := row_cell hX7.out (i := 4) rfl
        have y5 := row_cell hX7.out (i := 5) rfl
        have yl := row_lt hX7.out
        go_wp2_with (at_builtin; (refine wpList_append_win rfl _ _ 42 rfl 45 (.agg #[U 0, U 0, U 0, U 0, U 0, U 0]) 6 48 Tryz.underlying42 infoR rfl (by decide) rfl (hWx.out.kept ((Only.refl (fun _ => False) _).alloc _) (fun _ _ h => h)) _ 1 1 rfl [U xco, U xde, .int .u64 0, .int .u64 0, U xrl, .int .u64 0] rfl (fun _ => ⟨_, rfl, row_six (heap_new_at _ _ (by simp))⟩) (by simp [Value.oneCell']) (by unfold maxLen; omega) (by omega) ?_; intro v9 w9 h9 hW9 hO9 hh9; obtain ⟨p9, c9, rfl, _, _⟩ := hW9.out.form))
        have hst := Lib.hid (step_fresh (w := W2) (hOx.out.alloc _) hO9.out hnk.out hh9.out)
        go_roundw
        case rel =>
          refine ⟨k + 1, p9, c9, h9, by go_num, by omega, rfl, ?_, Lib.hid hst.out.2, Lib.hid hst.out.1⟩
          rw [hlk2.out]
          exact hW9
        case measure => simp [intOf]; omega
      · have hr1 : (0 : Int) < (xre : Int) := by omega
        have hlk2 := Lib.hid (show RL (k + 1) = RL k ++ [U xco, U xde, U xre, U xpr, U xrl, U (sM xpr xrl)] from by rw [hlr'.out, if_neg hr0, if_neg hr0])
        have cm := Lib.hid (fun W => Bch.rmul_any xpr hxc9 xrl xrl W (Nat.le_refl _) (by omega))
        obtain ⟨xm, hxm⟩ : ∃ n, n = sM xpr xrl := ⟨_, rfl⟩
        rw [← hxm] at hlk2 cm
        clear hxm hr0
        obtain ⟨d0, d1, d2, d3, d4, d5, d6, d7, d8, d9, dl⟩ := hcy.out w7 (hO.out.trans' hO7.out)
        have y0 := row_cell hX7.out (i := 0) rfl
        have y1 := row_cell hX7.out (i := 1) rfl
        have y2 := row_cell hX7.out (i := 2) rfl
        have y3 := row_cell hX7.out (i := 3) rfl
        have y4 := row_cell hX7.out (i := 4) rfl
        have y5 := row_cell hX7.out (i := 5) rfl
        have yl := row_lt hX7.out
        go_wp2_with fail
        refine (cn9.out w7 hO7.out).mono ?_
        rintro e w8 ⟨rfl, ho⟩
        have hX8 := Lib.hid (ho.heap hX7.out (fun h => h))
        have hO8 := Lib.hid (hO7.out.trans' ho)
        clear ho y0 y1 y2 y3 y4 y5 yl d0 d1 d2 d3 d4 d5 d6 d7 d8 d9 dl
        have y0 := row_cell hX8.out (i := 0) rfl
        have y1 := row_cell hX8.out (i := 1) rfl
        have y2 := row_cell hX8.out (i := 2) rfl
        have y3 := row_cell hX8.out (i := 3) rfl
        have y4 := row_cell hX8.out (i := 4) rfl
        have y5 := row_cell hX8.out (i := 5) rfl
        have yl := row_lt hX8.out
        have yf := row_free hX8.out 3
        go_upto_region 9 with fail
        obtain ⟨wa, hwa⟩ : ∃ wa, wa = w8.setCell ⟨X, 3, none⟩ (U xpr) := ⟨_, rfl⟩
        rw [← hwa]
        have hXa := Lib.hid (show wa.heap[X]? = some (.cells [U xco, U xde, U xre, U xpr, U xrl, .int .u64 0].toArray 45 (0, 0)) from by rw [hwa]; exact row_set hX8.out 3 (U xpr))
        have hOa := Lib.hid (show Only (fun _ => False) ws wa from by rw [hwa]; exact hO8.out.setCell (p := ⟨X, 3, none⟩) (fun h => absurd h (by dsimp only; omega)) _)
        clear hwa y0 y1 y2 y3 y4 y5 yl yf
        have y0 := row_cell hXa.out (i := 0) rfl
        have y1 := row_cell hXa.out (i := 1) rfl
        have y2 := row_cell hXa.out (i := 2) rfl
        have y3 := row_cell hXa.out (i := 3) rfl
        have y4 := row_cell hXa.out (i := 4) rfl
        have y5 := row_cell hXa.out (i := 5) rfl
        have yl := row_lt hXa.out
        have yf := row_free hXa.out 5
        go_wp2_with fail
        refine (cm.out wa).mono ?_
        rintro e wz ⟨rfl, hwz⟩
        subst hwz
        go_upto_region 10 with fail
        obtain ⟨wb, hwb⟩ : ∃ wb, wb = wz.setCell ⟨X, 5, none⟩ (U xm) := ⟨_, rfl⟩
        rw [← hwb]
        have hXb := Lib.hid (show wb.heap[X]? = some (.cells [U xco, U xde, U xre, U xpr, U xrl, U xm].toArray 45 (0, 0)) from by rw [hwb]; exact row_set hXa.out 5 (U xm))
        have hOb := Lib.hid (show Only (fun _ => False) ws wb from by rw [hwb]; exact hOa.out.setCell (p := ⟨X, 5, none⟩) (fun h => absurd h (by dsimp only; omega)) _)
        clear hwb y0 y1 y2 y3 y4 y5 yl yf
        have hWx := Lib.hid (hWk.out.kept hOb.out (fun _ _ h => h))
        have hOx := Lib.hid (hO.out.trans' hOb.out)
        have y0 := row_cell hXb.out (i := 0) rfl
        have y1 := row_cell hXb.out (i := 1) rfl
        have y2 := row_cell hXb.out (i := 2) rfl
        have y3 := row_cell hXb.out (i := 3) rfl
        have y4 := row_cell hXb.out (i := 4) rfl
        have y5 := row_cell hXb.out (i := 5) rfl
        have yl := row_lt hXb.out
        go_wp2_with (at_builtin; (refine wpList_append_win rfl _ _ 42 rfl 45 (.agg #[U 0, U 0, U 0, U 0, U 0, U 0]) 6 48 Tryz.underlying42 infoR rfl (by decide) rfl (hWx.out.kept ((Only.refl (fun _ => False) _).alloc _) (fun _ _ h => h)) _ 1 1 rfl [U xco, U xde, U xre, U xpr, U xrl, U xm] rfl (fun _ => ⟨_, rfl, row_six (heap_new_at _ _ (by simp))⟩) (by simp [Value.oneCell']) (by unfold maxLen; omega) (by omega) ?_; intro v9 w9 h9 hW9 hO9 hh9; obtain ⟨p9, c9, rfl, _, _⟩ := hW9.out.form))
        have hst := Lib.hid (step_fresh (w := W2) (hOx.out.alloc _) hO9.out hnk.out hh9.out)
        go_roundw
        case rel =>
          refine ⟨k + 1, p9, c9, h9, by go_num, by omega, rfl, ?_, Lib.hid hst.out.2, Lib.hid hst.out.1⟩
          rw [hlk2.out]
          exact hW9
        case measure => simp [intOf]; omega
    · obtain rfl : k = tn := by omega
      have hkn' : ¬ (k : Int) < (k : Int) := by omega
      have hf := Lib.hid (hfin.out ws hO.out A cap h6 hWk.out hnk.out)
      go_wp2
      exact hf.out
end Adm
end Go.Proofs.YtlbinlhaejhobaaGreatDoor
